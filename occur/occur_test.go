package occur_test

import (
	"math"
	"slices"
	"testing"

	"amanuensis/api"
	"amanuensis/occur"
)

var sort = api.Term{Kind: api.Sort}

func node(kind, head int, args ...api.Term) api.Term {
	return api.Term{Kind: kind, Head: head, Args: args}
}

func pi(a, b api.Term) api.Term                { return node(api.Pi, 0, a, b) }
func lam(a api.Term) api.Term                  { return node(api.Lam, 0, a) }
func fam(head int, args ...api.Term) api.Term  { return node(api.Fam, head, args...) }
func vari(head int, args ...api.Term) api.Term { return node(api.Var, head, args...) }
func con(head int, args ...api.Term) api.Term  { return node(api.Const, head, args...) }
func hole(head int, args ...api.Term) api.Term { return node(api.Meta, head, args...) }

func list(l ...api.Term) []api.Term { return l }

func ints(l ...int) []int { return l }

// varis are variables of these heads.
func varis(heads ...int) []api.Term {
	var l []api.Term
	for _, h := range heads {
		l = append(l, vari(h))
	}
	return l
}

// lams is a term below so many Lams.
func lams(n int, t api.Term) api.Term {
	for range n {
		t = lam(t)
	}
	return t
}

// heads are the numbers from 0 to below n, n no multiple of 7, from the greatest down, and back and forth.
func heads(n int) [][]int {
	down, forth := make([]int, n), make([]int, n)
	for i := range n {
		down[i] = n - 1 - i
		forth[i] = (i*7 + 3) % n
	}
	return [][]int{down, forth}
}

// rising are the numbers from 0 to below n.
func rising(n int) []int {
	l := make([]int, n)
	for i := range l {
		l[i] = i
	}
	return l
}

// P5.1

func TestVars(t *testing.T) {
	for _, x := range []struct {
		name string
		t    api.Term
		want []int
	}{
		{"the chapter's example", lam(vari(1, vari(0))), ints(0)},
		{"Sort", sort, nil},
		{"Fam, Const and Meta are no variables", fam(1, con(2, hole(3))), nil},
		{"nor are Pi and Lam", pi(sort, lam(con(1))), nil},
		{"one", vari(7), ints(7)},
		{"0", vari(0), ints(0)},
		{"more than once", con(0, vari(3), vari(3), con(1, vari(3))), ints(3)},
		{"at several depths, one variable", con(0, lam(vari(3)), vari(2), lams(2, vari(4))), ints(2)},
		{"at several depths, one Head", con(0, vari(2), lam(vari(2)), lams(2, vari(2)), lams(3, vari(2))), ints(0, 1, 2)},
		{"below Lam, bound", lam(vari(0)), nil},
		{"below Lam, just behind it", lam(vari(1)), ints(0)},
		{"below Lam, further on", lam(vari(5)), ints(4)},
		{"below two Lams, bound by the inner one", lams(2, vari(0)), nil},
		{"below two Lams, bound by the outer one", lams(2, vari(1)), nil},
		{"below two Lams, just behind them", lams(2, vari(2)), ints(0)},
		{"below three Lams", lams(3, con(0, vari(2), vari(3), vari(4))), ints(0, 1)},
		{"Pi binds in its last one", pi(sort, vari(0)), nil},
		{"Pi, just behind it", pi(sort, vari(1)), ints(0)},
		{"Pi binds not in its first one", pi(vari(0), sort), ints(0)},
		{"Pi, both", pi(vari(4), vari(4)), ints(3, 4)},
		{"Pi within Pi, on the left", pi(pi(vari(1), vari(0)), vari(0)), ints(1)},
		{"Pi within Pi, on the right", pi(vari(0), pi(vari(1), con(0, vari(0), vari(1), vari(2)))), ints(0)},
		{"Pi within Pi, all free", pi(vari(6), pi(vari(5), vari(7))), ints(4, 5, 6)},
		{"Lam within Pi", pi(lam(vari(1)), lam(vari(4))), ints(0, 2)},
		{"Pi within Lam", lam(pi(vari(0), vari(2))), ints(0)},
		{"what is behind a Lam is free", con(0, lam(vari(0)), vari(0)), ints(0)},
		{"Args of a free variable", vari(2, vari(0), lam(vari(2))), ints(0, 1, 2)},
		{"Args of a bound variable", lam(vari(0, vari(0), vari(3))), ints(2)},
		{"a variable binds nothing in its Args", lam(vari(0, vari(0, vari(0, vari(1))))), ints(0)},
		{"Args of Fam, Const and Meta", fam(9, con(9, hole(9, vari(2), vari(1)))), ints(1, 2)},
		{"the last one of Fam, Const and Meta binds nothing", con(0, fam(1, sort, vari(0)), hole(1, sort, vari(1))), ints(0, 1)},
		{"rising", con(0, vari(5), vari(1), vari(3), vari(0), vari(4)), ints(0, 1, 3, 4, 5)},
		{"rising by what they are, not by Heads", con(0, vari(5), lams(3, vari(7)), lam(vari(4)), lams(9, vari(9))), ints(0, 3, 4, 5)},
		{"far from one another", con(0, vari(math.MaxInt), vari(1<<20), vari(0), lam(vari(math.MaxInt))), ints(0, 1<<20, math.MaxInt-1, math.MaxInt)},
		{"59 Lams", lams(59, vari(300)), ints(241)},
		{"59 Lams, bound by the outermost one", lams(59, vari(58)), nil},
		{"59 Lams, just behind it", lams(59, vari(59)), ints(0)},
	} {
		if got := occur.Vars(x.t); !slices.Equal(got, x.want) {
			t.Errorf("%s: %v, not %v", x.name, got, x.want)
		}
	}
}

func TestMetas(t *testing.T) {
	for _, x := range []struct {
		name string
		t    api.Term
		want []int
	}{
		{"Sort", sort, nil},
		{"Fam, Const and Var are no metas", fam(1, con(2, vari(3))), nil},
		{"nor are Pi and Lam", pi(sort, lam(con(1))), nil},
		{"one", hole(7), ints(7)},
		{"0", hole(0), ints(0)},
		{"more than once", con(0, hole(3), hole(3, sort), con(1, hole(3))), ints(3)},
		{"below Lam, nothing is bound", lam(hole(0)), ints(0)},
		{"below Lams", lams(3, con(0, hole(1), hole(4))), ints(1, 4)},
		{"one Head at several depths", con(0, hole(2), lam(hole(2)), lams(2, hole(2))), ints(2)},
		{"in both of Pi", pi(hole(1), hole(0)), ints(0, 1)},
		{"within the Args of another one", hole(3, hole(1)), ints(1, 3)},
		{"within the Args of another one, deep", hole(1, con(0, hole(2, lam(hole(0, hole(5)))))), ints(0, 1, 2, 5)},
		{"within the Args of itself", hole(1, hole(1)), ints(1)},
		{"within the Args of Var and Fam", vari(0, fam(0, hole(4))), ints(4)},
		{"the last one of many", con(0, sort, vari(0), con(0), fam(0), hole(1)), ints(1)},
		{"rising", con(0, hole(5), hole(1), hole(3), hole(0), hole(4)), ints(0, 1, 3, 4, 5)},
		{"rising, whatever the depth", hole(9, lam(hole(7, hole(8))), hole(0)), ints(0, 7, 8, 9)},
		{"far from one another", con(0, hole(math.MaxInt), hole(1<<20), hole(0)), ints(0, 1<<20, math.MaxInt)},
	} {
		if got := occur.Metas(x.t); !slices.Equal(got, x.want) {
			t.Errorf("%s: %v, not %v", x.name, got, x.want)
		}
	}
}

// Whatever the order in which they occur, they rise, each once.
func TestManyRise(t *testing.T) {
	for _, n := range []int{1, 2, 10, 100, 1999} {
		for _, l := range heads(n) {
			wideVars, wideMetas, deepMetas := con(0), con(0), sort
			for _, h := range l {
				wideVars.Args = append(wideVars.Args, vari(h), lam(vari(h+1)))
				wideMetas.Args = append(wideMetas.Args, hole(h), lam(hole(h)))
				deepMetas = hole(h, deepMetas)
			}
			if got := occur.Vars(wideVars); !slices.Equal(got, rising(n)) {
				t.Errorf("variables %v: %v", l, got)
			}
			if got := occur.Metas(wideMetas); !slices.Equal(got, rising(n)) {
				t.Errorf("metas %v: %v", l, got)
			}
			if got := occur.Metas(deepMetas); !slices.Equal(got, rising(n)) {
				t.Errorf("metas, one within the other, %v: %v", l, got)
			}
		}
	}
}

// P5.2

func TestPattern(t *testing.T) {
	for _, x := range []struct {
		name  string
		l     []api.Term
		below int
		want  []int
		is    bool
	}{
		{"the chapter's example", varis(2, 0), 3, ints(2, 0), true},
		{"no term", nil, 3, nil, true},
		{"no term, an empty list", []api.Term{}, 3, nil, true},
		{"no term, below 0", nil, 0, nil, true},
		{"no term, below -1", nil, -1, nil, true},
		{"no term, below the least", nil, math.MinInt, nil, true},
		{"0 below 1", varis(0), 1, ints(0), true},
		{"0 below 0", varis(0), 0, nil, false},
		{"1 below 0", varis(1), 0, nil, false},
		{"0 below -1", varis(0), -1, nil, false},
		{"one less", varis(4), 5, ints(4), true},
		{"at it", varis(5), 5, nil, false},
		{"above it", varis(6), 5, nil, false},
		{"far above it", varis(math.MaxInt), 5, nil, false},
		{"one less than the greatest", varis(math.MaxInt-1, 0), math.MaxInt, ints(math.MaxInt-1, 0), true},
		{"the greatest, at it", varis(math.MaxInt), math.MaxInt, nil, false},
		{"Head below 0", varis(-1), 5, nil, false},
		{"Head below 0, and below below", varis(-3), -2, nil, false},
		{"the least Head", varis(math.MinInt), 5, nil, false},
		{"in order, rising", varis(0, 1, 2, 3), 4, ints(0, 1, 2, 3), true},
		{"in order, falling", varis(3, 2, 1, 0), 4, ints(3, 2, 1, 0), true},
		{"in order, back and forth", varis(3, 0, 9, 2, 7), 10, ints(3, 0, 9, 2, 7), true},
		{"twice", varis(1, 1), 5, nil, false},
		{"0 twice", varis(0, 0), 5, nil, false},
		{"twice, far from one another", varis(1, 0, 2, 3, 1), 5, nil, false},
		{"twice, at the end", varis(0, 1, 2, 3, 3), 5, nil, false},
		{"the first one is not below", varis(5, 0, 1), 5, nil, false},
		{"the last one is not below", varis(0, 1, 5), 5, nil, false},
		{"the last one is below 0", varis(0, 1, -1), 5, nil, false},
		{"Args", list(vari(0, vari(1))), 5, nil, false},
		{"Args, the last one", list(vari(0), vari(1), vari(2, sort)), 5, nil, false},
		{"Args, the first one", list(vari(2, sort), vari(1)), 5, nil, false},
		{"Args that are an empty list", list(api.Term{Kind: api.Var, Head: 2, Args: []api.Term{}}), 5, ints(2), true},
		{"what is bound in an Arg is none of them", list(lam(vari(0))), 5, nil, false},
	} {
		holdPattern(t, x.name, x.l, x.below, x.want, x.is)
	}
}

func holdPattern(t *testing.T, name string, l []api.Term, below int, want []int, wantIs bool) {
	t.Helper()
	got, is := occur.Pattern(l, below)
	if is != wantIs || !slices.Equal(got, want) {
		t.Errorf("%s: %v, %v, not %v, %v", name, got, is, want, wantIs)
	}
}

// A term that is no Var is none, whatever its Head, and wherever it stands.
func TestPatternOfOtherKinds(t *testing.T) {
	for kind := -1; kind <= api.Kinds; kind++ {
		if kind == api.Var {
			continue
		}
		for head := -1; head < 4; head++ {
			x := node(kind, head)
			for i, l := range [][]api.Term{list(x), list(x, vari(2)), list(vari(2), x), list(vari(2), x, vari(3)), list(node(kind, head, vari(1)))} {
				if got, is := occur.Pattern(l, 5); is || len(got) > 0 {
					t.Errorf("kind %d, head %d, %d: %v, %v", kind, head, i, got, is)
				}
			}
		}
	}
}

func TestPatternOfMany(t *testing.T) {
	for _, n := range []int{10, 100, 5000} {
		for _, l := range heads(n) {
			holdPattern(t, "many", varis(l...), n, l, true)
			holdPattern(t, "many, one not below", varis(l...), n-1, nil, false)
			holdPattern(t, "many, the first one twice", append(varis(l...), vari(l[0])), n, nil, false)
			holdPattern(t, "many, the last one twice", append(varis(l...), vari(l[n-1])), n, nil, false)
		}
	}
}

func TestPatterns(t *testing.T) {
	for _, x := range []struct {
		name string
		t    api.Term
		n    int
		want bool
	}{
		{"no metas", con(0, vari(5), lam(vari(9)), fam(1, pi(sort, vari(0, vari(0))))), 0, true},
		{"no metas, in fewer than none", vari(3), -1, true},
		{"Sort", sort, 0, true},
		{"without Args", hole(0), 0, true},
		{"without Args, in fewer than none", hole(0), -1, true},
		{"a variable", hole(0, vari(0)), 1, true},
		{"a variable that there is not", hole(0, vari(0)), 0, false},
		{"a variable that there is not, further on", hole(0, vari(3)), 3, false},
		{"all of a context", hole(0, varis(2, 1, 0)...), 3, true},
		{"another order", hole(0, varis(0, 2, 1)...), 3, true},
		{"the same one twice", hole(0, varis(0, 0)...), 3, false},
		{"the same one in two metas", con(0, hole(0, vari(1)), hole(1, vari(1)), hole(0, vari(1))), 2, true},
		{"below Lam, what it binds", lam(hole(0, vari(0))), 0, true},
		{"below Lam, what it binds not", lam(hole(0, vari(1))), 0, false},
		{"below Lam there is one more", lam(hole(0, vari(1), vari(0))), 1, true},
		{"below Lam there is one more, not two", lam(hole(0, vari(2))), 1, false},
		{"below three Lams", lams(3, hole(0, varis(0, 1, 2, 3, 4)...)), 2, true},
		{"below three Lams, one too many", lams(3, hole(0, varis(0, 1, 2, 3, 4, 5)...)), 2, false},
		{"in the last one of Pi one more", pi(sort, hole(0, vari(2))), 2, true},
		{"in the last one of Pi one more, not two", pi(sort, hole(0, vari(3))), 2, false},
		{"in the first one of Pi none more", pi(hole(0, vari(1)), sort), 2, true},
		{"in the first one of Pi none more, not one", pi(hole(0, vari(2)), sort), 2, false},
		{"Pi within Lam", lam(pi(hole(0, vari(0)), hole(0, varis(1, 0)...))), 0, true},
		{"Pi within Lam, on the left", lam(pi(hole(0, vari(1)), hole(0, varis(1, 0)...))), 0, false},
		{"behind a Lam none more", con(0, lam(vari(0)), hole(0, vari(0))), 0, false},
		{"below Fam, Const and Var none more", fam(0, con(0, vari(0, hole(0, vari(1))))), 1, false},
		{"below Fam, Const and Var, as many", fam(0, con(0, vari(0, hole(0, vari(1))))), 2, true},
		{"within the Args of another one", hole(0, hole(1)), 5, false},
		{"within the Args of itself", hole(0, hole(0)), 5, false},
		{"within the Args of another one, further on", hole(0, vari(0), con(0, hole(1, vari(0)))), 5, false},
		{"a Lam as an Arg", hole(0, lam(vari(0))), 5, false},
		{"a variable with Args as an Arg", hole(0, vari(0, vari(1))), 5, false},
		{"the first one of many is none", con(0, hole(0, con(1)), hole(1, vari(0)), hole(2)), 5, false},
		{"the last one of many is none", con(0, hole(0, vari(1)), hole(1, vari(0)), lam(hole(2, vari(6)))), 5, false},
		{"all of many", con(0, hole(0, vari(1)), hole(1, vari(0)), lam(hole(2, vari(5)))), 5, true},
		{"Args that are too great for others are not looked at", con(0, hole(0), vari(9, vari(9))), 0, true},
		{"a Head below 0 as an Arg", hole(0, vari(-1)), 5, false},
		{"in the most entries", hole(0, vari(math.MaxInt-1)), math.MaxInt, true},
		{"the sum wraps around", lam(hole(0, vari(0))), math.MaxInt, false},
		{"the sum wraps around, without Args", lam(hole(0)), math.MaxInt, true},
		{"the least n, and a Lam", lam(hole(0, vari(0))), math.MinInt, false},
		{"n of -1, and two Lams", lams(2, hole(0, vari(0))), -1, true},
	} {
		if got := occur.Patterns(x.t, x.n); got != x.want {
			t.Errorf("%s: %v, not %v", x.name, got, x.want)
		}
	}
}

// P1: there are no errors, also of terms that may not be, and each of these words is plain of them.

func TestTermsThatMayNotBe(t *testing.T) {
	for _, x := range []struct {
		name        string
		t           api.Term
		vars, metas []int
		patterns    bool
	}{
		{"kind below 0", node(-1, 0, vari(3), hole(1)), ints(3), ints(1), true},
		{"kind Kinds", node(api.Kinds, 0, vari(3), hole(1)), ints(3), ints(1), true},
		{"kind Kinds, bound around", lam(node(api.Kinds, 0, vari(0), vari(3))), ints(2), nil, true},
		{"Sort with a head and Args", node(api.Sort, 1, vari(3), hole(1, vari(4))), ints(3, 4), ints(1), true},
		{"Pi of none", node(api.Pi, 0), nil, nil, true},
		{"Pi of one: it is the last one", node(api.Pi, 0, con(0, vari(0), vari(3), hole(1, vari(5)))), ints(2, 4), ints(1), true},
		{"Pi of three: bound in the last one alone", node(api.Pi, 0, vari(0), vari(4), con(0, vari(0), vari(3))), ints(0, 2, 4), nil, true},
		{"Lam of none", node(api.Lam, 0), nil, nil, true},
		{"Lam of two: bound in the last one alone", node(api.Lam, 0, vari(0), con(0, vari(0), vari(3))), ints(0, 2), nil, true},
		{"Lam with a head", node(api.Lam, 1, con(0, vari(0), vari(3), hole(2, vari(0)))), ints(2), ints(2), true},
		{"Var below 0 is below what is free", vari(-1, vari(3)), ints(3), nil, true},
		{"Var below 0, below Lams", lams(2, con(0, vari(-1), vari(-2), vari(-3), vari(2))), ints(0), nil, true},
		{"least Var", con(0, vari(math.MinInt), lam(vari(math.MinInt))), nil, nil, true},
		{"Meta below 0", hole(-1, vari(3)), ints(3), ints(-1), true},
		{"Metas below 0 rise", con(0, hole(0), hole(-1), hole(math.MinInt), hole(-5)), nil, ints(math.MinInt, -5, -1, 0), true},
		{"Const and Fam below 0", con(-1, fam(-1, hole(0, sort))), nil, ints(0), false},
		{"61 deep", lams(60, hole(1, vari(60), vari(0), vari(65))), ints(0, 5), ints(1), true},
	} {
		if got := occur.Vars(x.t); !slices.Equal(got, x.vars) {
			t.Errorf("%s: variables %v, not %v", x.name, got, x.vars)
		}
		if got := occur.Metas(x.t); !slices.Equal(got, x.metas) {
			t.Errorf("%s: metas %v, not %v", x.name, got, x.metas)
		}
		if got := occur.Patterns(x.t, 6); got != x.patterns {
			t.Errorf("%s: patterns %v, not %v", x.name, got, x.patterns)
		}
	}
}

// The document's bound for all of it is 2^16 parts nested in one another.
func TestAsDeepAsIsPromised(t *testing.T) {
	const n = 1 << 16
	x := lams(n-2, con(0, vari(0), vari(n-3), vari(n-2), vari(n), hole(4, vari(n-1)), hole(2)))
	if got := occur.Vars(x); !slices.Equal(got, ints(0, 1, 2)) {
		t.Errorf("variables %v", got)
	}
	if got := occur.Metas(x); !slices.Equal(got, ints(2, 4)) {
		t.Errorf("metas %v", got)
	}
	if !occur.Patterns(x, 2) || occur.Patterns(x, 1) {
		t.Error("patterns")
	}
	var l []api.Term
	for range n {
		l = list(hole(1, l...))
	}
	if got, is := occur.Pattern(l, n); is || len(got) > 0 {
		t.Errorf("pattern %v, %v", got, is)
	}
	if occur.Patterns(l[0], n) {
		t.Error("patterns, one within the other")
	}
}

// A term that is far too great to be is gone through all the same.
func TestWide(t *testing.T) {
	const n = 100000
	x := con(0, slices.Repeat(list(vari(3), lam(hole(2, vari(0)))), n)...)
	x.Args = append(x.Args, vari(1), hole(0, vari(4)))
	if got := occur.Vars(x); !slices.Equal(got, ints(1, 3, 4)) {
		t.Errorf("variables %v", got)
	}
	if got := occur.Metas(x); !slices.Equal(got, ints(0, 2)) {
		t.Errorf("metas %v", got)
	}
	if !occur.Patterns(x, 5) || occur.Patterns(x, 4) {
		t.Error("patterns")
	}
}
