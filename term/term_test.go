package term_test

import (
	"math"
	"slices"
	"testing"

	"amanuensis/api"
	"amanuensis/term"
)

var sort = api.Term{Kind: api.Sort}

func node(kind, head int, args ...api.Term) api.Term {
	return api.Term{Kind: kind, Head: head, Args: args}
}

func pi(a, b api.Term) api.Term                { return node(api.Pi, 0, a, b) }
func lam(a api.Term) api.Term                  { return node(api.Lam, 0, a) }
func fam(head int, args ...api.Term) api.Term  { return node(api.Fam, head, args...) }
func vari(head int, args ...api.Term) api.Term { return node(api.Var, head, args...) }
func con(head int, args ...api.Term) api.Term  { return node(api.Const, head, args...) }
func meta(head int, args ...api.Term) api.Term { return node(api.Meta, head, args...) }

// lams is a term below so many Lams.
func lams(n int, t api.Term) api.Term {
	for range n {
		t = lam(t)
	}
	return t
}

// wide is a constant of so many constants.
func wide(n int) api.Term {
	return con(0, slices.Repeat([]api.Term{con(1)}, n)...)
}

// odd are terms that may not be, each by one node that stands at its top.
func odd() map[string]api.Term {
	return map[string]api.Term{
		"kind below 0":         node(-1, 0),
		"least kind":           node(math.MinInt, 0),
		"kind Kinds":           node(api.Kinds, 0),
		"kind above Kinds":     node(api.Kinds+1, 0),
		"greatest kind":        node(math.MaxInt, 0),
		"Sort with a head":     node(api.Sort, 1),
		"Sort, head below 0":   node(api.Sort, -1),
		"Sort of one":          node(api.Sort, 0, sort),
		"Pi with a head":       node(api.Pi, 1, sort, sort),
		"Pi, head below 0":     node(api.Pi, -1, sort, sort),
		"Pi of none":           node(api.Pi, 0),
		"Pi of one":            node(api.Pi, 0, sort),
		"Pi of three":          node(api.Pi, 0, sort, sort, sort),
		"Lam with a head":      node(api.Lam, 1, sort),
		"Lam, head below 0":    node(api.Lam, -1, sort),
		"Lam of none":          node(api.Lam, 0),
		"Lam of two":           node(api.Lam, 0, sort, sort),
		"Fam, head below 0":    fam(-1),
		"Var, head below 0":    vari(-1),
		"Const, head below 0":  con(-1),
		"Meta, head below 0":   meta(-1),
		"Fam, least head":      fam(math.MinInt),
		"Var, least head":      vari(math.MinInt),
		"Const, head -1, args": con(-1, sort, sort),
		"Meta, least head":     meta(math.MinInt),
	}
}

// fair are terms that may be.
func fair() map[string]api.Term {
	return map[string]api.Term{
		"Sort":             sort,
		"Sort, empty Args": {Kind: api.Sort, Args: []api.Term{}},
		"Pi":               pi(fam(0), vari(0)),
		"Lam":              lam(vari(0)),
		"Fam":              fam(0),
		"Fam of three":     fam(7, con(1), lam(vari(0)), meta(2)),
		"Var":              vari(0),
		"Var of one":       vari(3, sort),
		"Const":            con(0),
		"Const of two":     con(2, vari(0), vari(0)),
		"Meta":             meta(0),
		"Meta of two":      meta(4, vari(1), vari(0)),
		"greatest heads":   fam(math.MaxInt, vari(math.MaxInt), con(math.MaxInt), meta(math.MaxInt)),
		"what has no type": pi(lam(sort), pi(sort, lam(meta(9, sort)))),
	}
}

// P1.1

func TestSizeAndDepth(t *testing.T) {
	for _, x := range []struct {
		name        string
		t           api.Term
		size, depth int
	}{
		{"Sort", sort, 1, 1},
		{"noughts", api.Term{}, 1, 1},
		{"empty Args", api.Term{Kind: api.Var, Args: []api.Term{}}, 1, 1},
		{"Lam of Var 0", lam(vari(0)), 2, 2},
		{"Pi", pi(fam(0), fam(1)), 3, 2},
		{"deep on the left", con(0, lams(3, vari(0)), con(1)), 6, 5},
		{"deep on the right", con(0, con(1), lams(3, vari(0))), 6, 5},
		{"deep in the middle", con(0, con(1), lams(3, vari(0)), con(1)), 7, 5},
		{"one part twice", con(0, lam(vari(0)), lam(vari(0))), 5, 3},
		{"4000", wide(3999), 4000, 2},
		{"4001", wide(4000), 4001, 2},
		{"60 deep", lams(59, vari(0)), 60, 60},
		{"61 deep", lams(60, vari(0)), 61, 61},
		{"no kind", node(-3, -4, node(99, 0), sort), 3, 2},
		{"Sort of something", node(api.Sort, 5, lam(sort)), 3, 3},
		{"Lam of two", node(api.Lam, 0, lam(sort), sort), 4, 3},
	} {
		if got := term.Size(x.t); got != x.size {
			t.Errorf("%s: Size %d, not %d", x.name, got, x.size)
		}
		if got := term.Depth(x.t); got != x.depth {
			t.Errorf("%s: Depth %d, not %d", x.name, got, x.depth)
		}
	}
}

func TestMayByShape(t *testing.T) {
	for name, x := range fair() {
		for _, y := range around(x) {
			if !term.May(y) {
				t.Errorf("%s: May is false of %v", name, y)
			}
		}
	}
	for name, x := range odd() {
		for _, y := range around(x) {
			if term.May(y) {
				t.Errorf("%s: May is true of %v", name, y)
			}
		}
	}
}

// around are a term, and terms that may be but for it: it stands at each place that a node has for another one.
func around(x api.Term) []api.Term {
	return []api.Term{x, lam(x), pi(x, sort), pi(sort, x), fam(0, x), vari(0, sort, x), con(0, x, sort), meta(0, sort, x, sort), lam(lam(pi(sort, con(0, x))))}
}

func TestMayByLimits(t *testing.T) {
	for _, x := range []struct {
		name string
		t    api.Term
		may  bool
	}{
		{"4000 nodes", wide(api.MaxSize - 1), true},
		{"4001 nodes", wide(api.MaxSize), false},
		{"4000 nodes below Lam", lam(wide(api.MaxSize - 2)), true},
		{"4001 nodes below Lam", lam(wide(api.MaxSize - 1)), false},
		{"4000 nodes in two parts", con(0, wide(1999), wide(1998)), true},
		{"4001 nodes in two parts", con(0, wide(1999), wide(1999)), false},
		{"60 deep", lams(api.MaxDepth-1, vari(0)), true},
		{"61 deep", lams(api.MaxDepth, vari(0)), false},
		{"60 deep by Args", con(0, con(1), lams(58, vari(0)), con(1)), true},
		{"61 deep by Args", con(0, con(1), lams(59, vari(0)), con(1)), false},
		{"both limits", con(0, lams(58, vari(0)), wide(3939)), true},
		{"both limits, one node more", con(0, lams(58, vari(0)), wide(3940)), false},
	} {
		if got := term.May(x.t); got != x.may {
			t.Errorf("%s (Size %d, Depth %d): May %v", x.name, term.Size(x.t), term.Depth(x.t), got)
		}
	}
}

// A term may be written with few lists and have more nodes than could be counted.
func TestMayLeavesEarly(t *testing.T) {
	x := con(0)
	for range 59 {
		x = con(0, x, x)
	}
	if term.May(x) {
		t.Error("2^60 nodes")
	}
	ring := make([]api.Term, 1)
	ring[0] = con(0)
	ring[0].Args = ring
	if term.May(ring[0]) {
		t.Error("a term within itself")
	}
}

// P1.2

func TestSame(t *testing.T) {
	a := pi(fam(0, con(1)), lam(vari(1, meta(2, vari(0)), con(3))))
	for name, b := range map[string]api.Term{
		"kind at the top":  node(api.Const, 0, fam(0, con(1)), lam(vari(1, meta(2, vari(0)), con(3)))),
		"head at the top":  node(api.Pi, 1, fam(0, con(1)), lam(vari(1, meta(2, vari(0)), con(3)))),
		"kind below":       pi(con(0, con(1)), lam(vari(1, meta(2, vari(0)), con(3)))),
		"head below":       pi(fam(0, con(1)), lam(vari(0, meta(2, vari(0)), con(3)))),
		"head of the last": pi(fam(0, con(1)), lam(vari(1, meta(2, vari(0)), con(4)))),
		"kind of the last": pi(fam(0, con(1)), lam(vari(1, meta(2, vari(0)), fam(3)))),
		"one less":         pi(fam(0, con(1)), lam(vari(1, meta(2, vari(0))))),
		"one more":         pi(fam(0, con(1)), lam(vari(1, meta(2, vari(0)), con(3), con(3)))),
		"none":             pi(fam(0), lam(vari(1, meta(2, vari(0)), con(3)))),
		"order":            pi(fam(0, con(1)), lam(vari(1, con(3), meta(2, vari(0))))),
		"grouped":          pi(fam(0, con(1)), lam(vari(1, meta(2, vari(0), con(3))))),
		"a part":           fam(0, con(1)),
		"noughts":          {},
	} {
		if term.Same(a, b) || term.Same(b, a) {
			t.Errorf("%s: the same", name)
		}
	}
	b := pi(fam(0, con(1)), lam(vari(1, meta(2, vari(0)), con(3))))
	if !term.Same(a, b) || !term.Same(a, a) {
		t.Error("not the same")
	}
	if !term.Same(vari(1), api.Term{Kind: api.Var, Head: 1, Args: []api.Term{}}) {
		t.Error("no Args, nil or empty, are the same")
	}
}

func TestSameOfWhatMayNotBe(t *testing.T) {
	all := odd()
	for n, x := range all {
		for m, y := range all {
			if term.Same(x, y) != (n == m) || term.Same(con(0, x), con(0, y)) != (n == m) {
				t.Errorf("%s, %s: Same %v", n, m, term.Same(x, y))
			}
		}
	}
	if !term.Same(wide(5000), wide(5000)) || term.Same(wide(5000), wide(5001)) {
		t.Error("above MaxSize")
	}
	if !term.Same(lams(100, sort), lams(100, sort)) || term.Same(lams(100, sort), lams(101, sort)) {
		t.Error("above MaxDepth")
	}
}

func TestScopedByVars(t *testing.T) {
	for _, x := range []struct {
		name string
		t    api.Term
		vars int // the least number that is enough
	}{
		{"Lam of Var 0", lam(vari(0)), 0},
		{"Lam of Var 1", lam(vari(1)), 1},
		{"Var 0", vari(0), 1},
		{"Var 5", vari(5), 6},
		{"no variable", con(9, fam(9), sort), 0},
		{"two Lams", lam(lam(con(0, vari(0), vari(1)))), 0},
		{"two Lams, one variable free", lam(lam(con(0, vari(0), vari(2)))), 1},
		{"Pi binds in its last one", pi(sort, vari(0)), 0},
		{"Pi binds not in its first one", pi(vari(0), sort), 1},
		{"Pi, both", pi(vari(0), vari(1)), 1},
		{"Pi of Pi on the left", pi(pi(sort, vari(0)), sort), 0},
		{"Pi of Pi on the left, beyond", pi(pi(sort, vari(1)), sort), 1},
		{"Pi of Pi on the right", pi(sort, pi(vari(0), vari(1))), 0},
		{"what is behind a Lam is not bound", con(0, lam(vari(0)), vari(0)), 1},
		{"Args of a variable", lam(vari(0, vari(3))), 3},
		{"Args of a meta", lam(meta(0, vari(2), vari(0))), 2},
		{"Fam, Const and Var bind nothing", fam(0, con(0, vari(0, vari(0)))), 1},
		{"Meta binds nothing", meta(0, vari(0)), 1},
		{"the last variable of many", con(0, con(0), vari(0), con(0), vari(2)), 3},
		{"58 Lams", lams(58, vari(60)), 3},
	} {
		for vars := -2; vars < 10; vars++ {
			want := vars >= x.vars || !hasVar(x.t)
			if got := term.Scoped(x.t, vars, 10); got != want {
				t.Errorf("%s with %d variables: Scoped %v", x.name, vars, got)
			}
		}
	}
}

func hasVar(t api.Term) bool {
	return t.Kind == api.Var || slices.ContainsFunc(t.Args, hasVar)
}

func TestScopedByMetas(t *testing.T) {
	for _, x := range []struct {
		name  string
		t     api.Term
		metas int // the least number that is enough
	}{
		{"Meta 0", meta(0), 1},
		{"Meta 3", meta(3), 4},
		{"Meta within Meta", meta(0, meta(2)), 3},
		{"what binds is nothing to metas", lams(3, meta(1)), 2},
		{"the greatest one", con(0, meta(1), pi(meta(4), meta(0)), meta(2)), 5},
	} {
		for metas := -2; metas < 8; metas++ {
			if got := term.Scoped(x.t, 10, metas); got != (metas >= x.metas) {
				t.Errorf("%s with %d metas: Scoped %v", x.name, metas, got)
			}
		}
	}
	for metas := -2; metas < 3; metas++ {
		if !term.Scoped(lam(con(7, fam(8), vari(0))), 0, metas) {
			t.Errorf("without metas, %d metas: Scoped is false", metas)
		}
	}
}

func TestScopedByWrongArguments(t *testing.T) {
	for _, x := range []struct {
		name        string
		t           api.Term
		vars, metas int
		scoped      bool
	}{
		{"variables below 0, made good by what binds", lam(lam(vari(0))), -1, 0, true},
		{"variables below 0, not made good", lam(lam(vari(1))), -1, 0, false},
		{"least numbers, nothing to scope", pi(fam(3), sort), math.MinInt, math.MinInt, true},
		{"greatest numbers", con(0, vari(math.MaxInt-1), meta(math.MaxInt-1)), math.MaxInt, math.MaxInt, true},
		{"greatest variable", vari(math.MaxInt), math.MaxInt, math.MaxInt, false},
		{"greatest meta", meta(math.MaxInt), math.MaxInt, math.MaxInt, false},
		{"the sum wraps around", lam(vari(0)), math.MaxInt, 0, false},
		{"a variable below 0 is below", vari(-1), 0, 0, true},
		{"a variable below 0, not below", vari(-1), -1, 0, false},
		{"a meta below 0 is below", meta(-1), 0, 0, true},
		{"a meta below 0, not below", meta(-1), 0, -1, false},
		{"Lam of two binds in its last one", node(api.Lam, 0, sort, vari(0)), 0, 0, true},
		{"Lam of two binds not in its first one", node(api.Lam, 0, vari(0), sort), 0, 0, false},
		{"Pi of one binds in it", node(api.Pi, 0, vari(0)), 0, 0, true},
		{"Pi of three binds in its last one", node(api.Pi, 0, sort, sort, vari(0)), 0, 0, true},
		{"Pi of three binds not in its second one", node(api.Pi, 0, sort, vari(0), sort), 0, 0, false},
		{"Sort binds nothing", node(api.Sort, 0, vari(0)), 0, 0, false},
		{"what is no kind binds nothing", node(api.Kinds, 0, meta(0)), 9, 0, false},
		{"a head is nothing to what is no kind", node(-1, 99, node(api.Kinds, 99)), 0, 0, true},
	} {
		if got := term.Scoped(x.t, x.vars, x.metas); got != x.scoped {
			t.Errorf("%s: Scoped %v", x.name, got)
		}
	}
}

func TestOwnIsTheSame(t *testing.T) {
	for _, l := range []map[string]api.Term{fair(), odd()} {
		for name, x := range l {
			for _, y := range around(x) {
				if !term.Same(y, term.Own(y)) {
					t.Errorf("%s: %v is not %v", name, term.Own(y), y)
				}
			}
		}
	}
	if x := term.Own(wide(5000)); !term.Same(x, wide(5000)) {
		t.Error("above MaxSize")
	}
}

func TestOwnSharesNothing(t *testing.T) {
	part := con(1, vari(0), meta(2, vari(0)))
	make1 := func() api.Term { return pi(fam(0, term.Own(part)), lam(vari(1, term.Own(part), con(3)))) }
	x := make1()
	y := term.Own(x)
	scribble(y)
	if !term.Same(x, make1()) {
		t.Error("a change to what was answered is seen in what was given")
	}
	y = term.Own(x)
	scribble(x)
	if !term.Same(y, make1()) {
		t.Error("a change to what was given is seen in what was answered")
	}
}

// scribble changes each node, and what lies behind each list's end.
func scribble(t api.Term) {
	all := t.Args[:cap(t.Args)]
	for i := range all {
		scribble(all[i])
		all[i] = node(all[i].Kind+1, all[i].Head+1, sort)
	}
}

// No two lists of one answer share anything, even if those that were given do.
func TestOwnUnsharesItsParts(t *testing.T) {
	part := con(1, vari(0))
	x := term.Own(con(0, part, part))
	x.Args[0].Args[0].Head = 9
	if x.Args[1].Args[0].Head != 0 || part.Args[0].Head != 0 {
		t.Error("one part twice")
	}
	room := make([]api.Term, 0, 4)
	y := term.Own(con(0, node(api.Const, 1, room...), node(api.Const, 2, room...)))
	_ = append(y.Args[0].Args, vari(7))
	if room = room[:1]; !term.Same(room[0], sort) {
		t.Error("the room behind an empty list")
	}
	z := term.Own(con(0, con(1, sort), con(2, sort)))
	_ = append(z.Args, vari(7))
	_ = append(z.Args[0].Args, vari(7))
	if !term.Same(z, con(0, con(1, sort), con(2, sort))) {
		t.Error("a list grew into another one")
	}
}

func TestNothingGivenIsChanged(t *testing.T) {
	for _, x := range terms() {
		keep := copied(x)
		term.Size(x)
		term.Depth(x)
		term.May(x)
		term.Same(x, lam(x))
		term.Scoped(x, 1, 1)
		term.Own(x)
		if !equal(x, keep) {
			t.Errorf("%v was %v", x, keep)
		}
	}
}

// copied and equal are apart from the package, for it is what they hold to account.
func copied(t api.Term) api.Term {
	l := slices.Clone(t.Args)
	for i := range l {
		l[i] = copied(l[i])
	}
	return node(t.Kind, t.Head, l...)
}

func equal(a, b api.Term) bool {
	return a.Kind == b.Kind && a.Head == b.Head && slices.EqualFunc(a.Args, b.Args, equal)
}

// P1.3

// terms are many small terms, also ones that may not be.
func terms() []api.Term {
	var l []api.Term
	for kind := -1; kind <= api.Kinds; kind++ {
		for head := -1; head < 3; head++ {
			l = append(l, node(kind, head))
		}
	}
	leaves := slices.Clone(l)
	for _, a := range leaves {
		l = append(l, lam(a), lam(lam(a)), con(0, a), meta(1, a), vari(1, a, a))
		for _, b := range leaves {
			l = append(l, pi(a, b), lam(con(1, a, pi(b, a))))
		}
	}
	return l
}

func TestWhatIsTheSameIsAlike(t *testing.T) {
	for _, x := range terms() {
		y := copied(x)
		if !term.Same(x, y) || term.Size(x) != term.Size(y) || term.Depth(x) != term.Depth(y) || term.May(x) != term.May(y) {
			t.Fatalf("%v: not alike", x)
		}
		for n := -1; n < 4; n++ {
			for m := -1; m < 4; m++ {
				if term.Scoped(x, n, m) != term.Scoped(y, n, m) {
					t.Fatalf("%v, with %d and %d: not scoped alike", x, n, m)
				}
			}
		}
	}
}

func TestWhatIsNotAlikeIsNotTheSame(t *testing.T) {
	l := terms()[:300]
	for i, x := range l {
		for j, y := range l {
			same := term.Same(x, y)
			if same != equal(x, y) || same != term.Same(y, x) || i == j && !same {
				t.Fatalf("%v, %v: Same %v", x, y, same)
			}
			if same && (term.Size(x) != term.Size(y) || term.Depth(x) != term.Depth(y)) {
				t.Fatalf("%v, %v: the same, but not as great", x, y)
			}
		}
	}
}

func TestWhatIsScopedIsSoWithMore(t *testing.T) {
	for _, x := range terms() {
		for n := -2; n < 4; n++ {
			for m := -2; m < 4; m++ {
				if !term.Scoped(x, n, m) {
					continue
				}
				if !term.Scoped(x, n+1, m) || !term.Scoped(x, n, m+1) || !term.Scoped(x, n+1000, m+1000) {
					t.Fatalf("%v: scoped with %d and %d, but not with more", x, n, m)
				}
			}
		}
	}
}

// P1: the document's bound for all of it is 2^16 parts nested in one another.
func TestAsDeepAsIsPromised(t *testing.T) {
	const n = 1 << 16
	x := lams(n-1, vari(n-1))
	if term.Size(x) != n || term.Depth(x) != n || term.May(x) {
		t.Error("Size, Depth or May")
	}
	if !term.Scoped(x, 1, 0) || term.Scoped(x, 0, 0) {
		t.Error("Scoped")
	}
	if y := term.Own(x); !term.Same(x, y) || term.Same(x, lams(n-1, vari(0))) {
		t.Error("Own or Same")
	}
}
