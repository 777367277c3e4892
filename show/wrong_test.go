package show_test

import (
	"math"
	"slices"
	"testing"

	"amanuensis/api"
	"amanuensis/parse"
	"amanuensis/show"
)

// wrap is a place in a term over the system, which binds so many variables there.
type wrap struct {
	name  string
	of    func(x api.Term) api.Term
	binds int
}

func wraps() []wrap {
	z, nat := con(1), fam(0)
	return []wrap{
		{"alone", func(x api.Term) api.Term { return x }, 0},
		{"in a Lam", lam, 1},
		{"in two Lams", func(x api.Term) api.Term { return lams(2, x) }, 2},
		{"in a Pi's first Arg", func(x api.Term) api.Term { return pi(x, nat) }, 0},
		{"in a Pi's second Arg", func(x api.Term) api.Term { return pi(nat, x) }, 1},
		{"in a Pi in a Pi's first Arg", func(x api.Term) api.Term { return pi(pi(nat, x), nat) }, 1},
		{"the one Arg of a Const", func(x api.Term) api.Term { return con(2, x) }, 0},
		{"the first Arg of a Fam", func(x api.Term) api.Term { return fam(3, x, z) }, 0},
		{"the last Arg of a Fam", func(x api.Term) api.Term { return fam(3, z, x) }, 0},
		{"among a Const's Args", func(x api.Term) api.Term { return con(2, z, z, x, z) }, 0},
		{"the Arg of a Var", func(x api.Term) api.Term { return lam(vari(0, x)) }, 1},
		{"the last Arg of a Var", func(x api.Term) api.Term { return pi(nat, vari(0, vari(0), x)) }, 1},
		{"in an Arg's Arg", func(x api.Term) api.Term { return con(2, con(2, con(2, z, x)), z) }, 0},
		{"in an Arg's Lam", func(x api.Term) api.Term { return con(2, z, lam(con(2, x))) }, 1},
	}
}

// mayNot are nodes that may not be.
func mayNot() []api.Term {
	z := con(1)
	l := []api.Term{
		node(api.Sort, 1), node(api.Sort, -1), node(api.Sort, 0, z), node(api.Sort, 0, z, z),
		node(api.Pi, 0), node(api.Pi, 0, z), node(api.Pi, 0, z, z, z), node(api.Pi, 1, z, z), node(api.Pi, -1, z, z),
		node(api.Lam, 0), node(api.Lam, 0, z, z), node(api.Lam, 1, z), node(api.Lam, -1, z),
		fam(-1), vari(-1), con(-1), met(-1), fam(-1, z), vari(-1, z), con(-1, z), met(-1, z),
	}
	for _, kind := range []int{-1, api.Kinds, api.Kinds + 1, math.MinInt, math.MaxInt} {
		l = append(l, node(kind, 0), node(kind, 1, z), node(kind, -1, z, z))
	}
	for _, kind := range []int{api.Fam, api.Var, api.Const, api.Meta} {
		l = append(l, node(kind, math.MinInt), node(kind, -2, z, z))
	}
	return l
}

// noScope are nodes that are no scope, below so many nodes that bind.
func noScope(binds int) []api.Term {
	z := con(1)
	return []api.Term{
		vari(binds), vari(binds + 1), vari(binds + 60), vari(math.MaxInt), vari(binds, z), vari(binds, z, z),
		met(0), met(1), met(5), met(math.MaxInt), met(0, z), met(0, z, z), met(0, vari(binds)),
		fam(7), con(7), fam(8), con(8), fam(math.MaxInt), con(math.MaxInt), fam(7, z), con(7, z), con(7, z, z),
	}
}

// P15.1: ErrArg of a term.

func TestTermsThatMayNotBe(t *testing.T) {
	for _, place := range wraps() {
		for _, x := range mayNot() {
			refuse(t, place.of(x), api.ErrArg)
			refuseOver(t, place.of(x), nil, api.ErrArg)
			// Also where there is what is no scope, ahead of it and behind.
			for _, y := range noScope(1) {
				refuseOver(t, lam(con(2, place.of(x), y)), system(), api.ErrArg)
				refuseOver(t, lam(con(2, y, place.of(x))), system(), api.ErrArg)
				refuseOver(t, pi(y, place.of(x)), system(), api.ErrArg)
			}
		}
	}
	for _, x := range mayNot() {
		for _, y := range noScope(0) {
			refuse(t, con(2, y, x), api.ErrArg)
			refuse(t, node(y.Kind, y.Head, x), api.ErrArg)
			refuse(t, con(99, x), api.ErrArg)
		}
	}
}

// The deepest terms that may be, of each sort, and those one node deeper.
func TestDeepTerms(t *testing.T) {
	for _, x := range []struct {
		of        func(x api.Term) api.Term
		open, end string
	}{
		{func(x api.Term) api.Term { return con(2, x) }, "s(", ")"},
		{func(x api.Term) api.Term { return fam(3, con(1), x) }, "le z(", ")"},
		{func(x api.Term) api.Term { return pi(x, sort) }, "{_0:", "}type"},
	} {
		deep, want := con(2, con(1)), "s z"
		for range 58 {
			deep, want = x.of(deep), x.open+want+x.end
		}
		hold(t, deep, want)
		for range 3 {
			deep = x.of(deep)
			refuse(t, deep, api.ErrArg)
		}
	}
	hold(t, lams(58, con(2, vari(57))), lamsText(58)+"s _0")
	hold(t, lams(59, vari(58)), lamsText(59)+"_0")
	hold(t, lams(59, sort), lamsText(59)+"type")
	hold(t, lams(55, con(2, lam(lam(con(2, vari(0), vari(56)))))), lamsText(55)+"s([_55][_56]s _56 _0)")
	refuse(t, lams(60, sort), api.ErrArg)
	refuse(t, lams(60, vari(60)), api.ErrArg)
	refuse(t, lams(59, vari(0, vari(1))), api.ErrArg)
	refuse(t, pis(60, met(0)), api.ErrArg)
	refuse(t, con(99, lams(59, vari(0))), api.ErrArg)
	refuse(t, con(99, lams(58, vari(0))), api.ErrScope)
}

func lamsText(n int) string {
	var s string
	for i := range n {
		s += "[_" + number(i) + "]"
	}
	return s
}

// The greatest terms that may be, and those of one node more.
func TestGreatTerms(t *testing.T) {
	args := func(n int, a api.Term) []api.Term { return slices.Repeat([]api.Term{a}, n) }
	z, sz := con(1), con(2, con(1))
	hold(t, con(2, args(3999, z)...), "s"+repeat(" z", 3999))
	hold(t, fam(3, append(args(1999, sz), z)...), "le"+repeat("(s z)", 1999)+"z")
	hold(t, lam(vari(0, args(3998, vari(0))...)), "[_0]_0"+repeat(" _0", 3998))
	hold(t, pi(con(2, args(1998, z)...), con(2, args(1999, vari(0))...)), "{_0:s"+repeat(" z", 1998)+"}s"+repeat(" _0", 1999))
	for _, x := range []api.Term{z, sort, vari(0), met(0), con(6)} {
		refuse(t, con(2, args(4000, x)...), api.ErrArg)
		refuse(t, con(2, args(100000, x)...), api.ErrArg)
		refuse(t, con(2, con(2, args(3999, x)...)), api.ErrArg)
		refuse(t, pi(con(2, args(1999, x)...), con(2, args(1999, z)...)), api.ErrArg)
		refuse(t, con(99, args(4000, x)...), api.ErrArg)
	}
	refuse(t, con(99, args(3999, z)...), api.ErrScope)
	refuse(t, con(2, append(args(3998, z), met(0))...), api.ErrScope)
}

// P15.1: ErrScope of a term.

func TestTermsThatAreNoScope(t *testing.T) {
	for _, place := range wraps() {
		for _, x := range noScope(place.binds) {
			refuse(t, place.of(x), api.ErrScope)
		}
		// One variable less is bound.
		if n := place.binds; n > 0 {
			if b, e := show.Term(place.of(vari(n-1)), system()); e != api.OK || len(b) == 0 {
				t.Errorf("%s: %q, %d", place.name, b, e)
			}
		}
	}
	refuse(t, vari(0), api.ErrScope)
	refuse(t, met(0), api.ErrScope)
	refuse(t, con(2, lam(vari(0)), vari(0)), api.ErrScope)
	refuse(t, pi(fam(0), pi(vari(0), vari(2))), api.ErrScope)
	refuse(t, pi(pi(fam(0), vari(0)), vari(1)), api.ErrScope)
}

func TestHeadsThatTheDeclarationsHave(t *testing.T) {
	for n := range 8 {
		var l []api.Decl
		for i := range n {
			l = append(l, decl("a"+number(i), sort))
		}
		for _, kind := range []int{api.Fam, api.Const} {
			for head := range n {
				over(t, node(kind, head), l, "a"+number(head))
				over(t, lam(node(kind, head, vari(0))), l, "[_0]a"+number(head)+" _0")
				over(t, node(kind, 0, node(kind, head, sort)), l, "a0(a"+number(head)+"(type))")
			}
			for _, head := range []int{n, n + 1, n + 100, math.MaxInt} {
				refuseOver(t, node(kind, head), l, api.ErrScope)
				refuseOver(t, lam(node(kind, head, vari(0))), l, api.ErrScope)
				refuseOver(t, node(kind, 0, sort, node(kind, head)), l, api.ErrScope)
			}
			for _, head := range []int{-1, -n, -n - 1, math.MinInt} {
				if head < 0 {
					refuseOver(t, node(kind, head), l, api.ErrArg)
					refuseOver(t, lam(node(kind, head, vari(0))), l, api.ErrArg)
				}
			}
		}
	}
}

func TestTermsOverNoDeclarations(t *testing.T) {
	for _, l := range [][]api.Decl{nil, {}, system()[:0]} {
		over(t, sort, l, "type")
		over(t, lam(sort), l, "[_0]type")
		over(t, pi(sort, lam(vari(1, vari(0), sort))), l, "{_0:type}[_1]_0 _1(type)")
		for _, x := range []api.Term{fam(0), con(0), fam(1), lam(con(0)), pi(fam(0), sort), lam(vari(0, con(0))), vari(0), met(0)} {
			refuseOver(t, x, l, api.ErrScope)
		}
		refuseOver(t, con(-1), l, api.ErrArg)
	}
}

// P15.1: errors of declarations.

func TestNamesThatMayNotBeDeclared(t *testing.T) {
	for _, name := range []string{
		"", repeat("a", 41), repeat("'", 100), "_", "_0", "_a", "__", "_type", "type", " a", "a ", "a b", "a\n", "\t", ".", ":", "(", "a.", "a:b", "(a)", "a%", "%", "a-b", "-", "a\x00", "\x7f", "\u00e9", "a\u00e9", "\x80", "\xff", "\r", "a\r",
	} {
		if parse.Name(name) {
			t.Fatal(name)
		}
		for i := range 6 {
			l := slices.Insert(sig(decl("a", sort), decl("b", sort), decl("c", sort), decl("d", sort), decl("e", sort)), i, decl(name, sort))
			refuseDecls(t, l, api.ErrArg)
			// The name is ahead of the term.
			for _, x := range []api.Term{vari(0), met(0), con(6), con(-1), node(-1, 0)} {
				l[i].T = x
				refuseDecls(t, l, api.ErrArg)
			}
		}
	}
}

func TestNamesThatStandTwice(t *testing.T) {
	many := func() []api.Decl {
		var l []api.Decl
		for i := range 12 {
			l = append(l, decl("a"+number(i), sort))
		}
		return l
	}
	for i := range 12 {
		for j := range i {
			l := many()
			l[i].Name = l[j].Name
			refuseDecls(t, l, api.ErrArg)
			// Whichever of the two has a wrong term: the name is ahead of it.
			for _, at := range []int{i, j} {
				l[at].T = vari(0)
				refuseDecls(t, l, api.ErrArg)
				l[at].T = sort
			}
			// It is another one's at the first place already, ahead of all that is between.
			for at := range 12 {
				l[at].T = con(12)
				if at < j {
					refuseDecls(t, l, api.ErrScope)
				} else {
					refuseDecls(t, l, api.ErrArg)
				}
				l[at].T = sort
			}
		}
	}
	refuseDecls(t, sig(decl("a", sort), decl("a", sort)), api.ErrArg)
	refuseDecls(t, sig(decl("a", sort), decl("a", fam(0))), api.ErrArg)
	refuseDecls(t, slices.Repeat(sig(decl("a", sort)), 50), api.ErrArg)
	holdDecls(t, sig(decl("a", sort), decl("A", sort), decl("a'", sort), decl("aa", sort)), "a : type.\nA : type.\na' : type.\naa : type.\n")
}

// wrongDecls are declarations that are wrong, by what is told of each; those whose names are in order have this one.
func wrongDecls(name string) map[api.Errno][]api.Decl {
	return map[api.Errno][]api.Decl{
		api.ErrArg: {decl("", sort), decl("_", sort), decl("type", sort), decl("a b", con(99)), decl("-", node(-1, 0)), decl(repeat("a", 41), vari(0)),
			decl(name, node(-1, 0)), decl(name, con(-1)), decl(name, con(2, vari(0), node(api.Lam, 0))), decl(name, lams(60, con(99)))},
		api.ErrScope: {decl(name, vari(0)), decl(name, met(0)), decl(name, con(99)), decl(name, fam(99)), decl(name, lam(vari(1)))},
	}
}

// Two that are wrong, in both orders: the first one is told of.
func TestTheFirstError(t *testing.T) {
	for e, first := range wrongDecls("first") {
		for _, a := range first {
			refuseDecls(t, sig(a), e)
			for _, second := range wrongDecls("second") {
				for _, b := range second {
					refuseDecls(t, sig(a, b), e)
					refuseDecls(t, append(system(), a, decl("x", sort), b, decl("y", sort)), e)
				}
			}
		}
	}
}

func TestAnErrorAtEachPlace(t *testing.T) {
	for i := range 45 {
		var l []api.Decl
		for j := range 45 {
			l = append(l, decl("a"+number(j), fam(0)))
		}
		for _, x := range []struct {
			d    api.Decl
			want api.Errno
		}{{decl("_", sort), api.ErrArg}, {decl("a", con(45)), api.ErrScope}, {decl("a", con(44, vari(0))), api.ErrScope}, {decl("a", node(7, 0)), api.ErrArg}, {decl("a"+number((i+1)%45), sort), api.ErrArg}} {
			l[i] = x.d
			refuseDecls(t, l, x.want)
		}
	}
}

// R1: what is anything at all is told of.

func TestTermsOfAnything(t *testing.T) {
	within := make([]api.Term, 1)
	within[0] = api.Term{Kind: api.Lam, Args: within}
	shared, long := con(1), con(1)
	for range 55 {
		shared = con(2, shared, shared)
	}
	for range 1 << 16 {
		long = con(2, long)
	}
	wide := con(2, slices.Repeat([]api.Term{con(1)}, 1<<20)...)
	for i, x := range []api.Term{within[0], shared, long, wide, lam(within[0]), con(2, shared, long)} {
		if b, e := show.Term(x, system()); e != api.ErrArg || len(b) != 0 {
			t.Errorf("%d: %q, %d", i, short(b), e)
		}
		if b, e := show.Decls(append(system(), decl("new", x))); e != api.ErrArg || len(b) != 0 {
			t.Errorf("%d: %q, %d", i, short(b), e)
		}
		// What the other declarations are does not matter to a term.
		over(t, lam(con(5, vari(0))), append(system(), decl("new", x)), "[_0]new _0")
	}
}

func TestManyDeclarationsOfAnything(t *testing.T) {
	d := dice(15)
	told := map[api.Errno]int{}
	for range 20000 {
		var l []api.Decl
		for range d.below(5) {
			l = append(l, decl(d.anyName(), d.anything(d.below(4))))
		}
		x := d.anything(d.below(4))
		b, e := show.Term(x, l)
		if e != api.OK && len(b) != 0 {
			t.Fatalf("%q, %d", b, e)
		}
		told[e]++
		b, e = show.Decls(l)
		if e != api.OK && len(b) != 0 {
			t.Fatalf("%q, %d", b, e)
		}
		told[e]++
	}
	if len(told) != 3 {
		t.Error(told)
	}
}
