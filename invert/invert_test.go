package invert_test

import (
	"math"
	"slices"
	"testing"

	"amanuensis/api"
	"amanuensis/invert"
)

const mostEntries = 1000

var sort = api.Term{Kind: api.Sort}

func node(kind, head int, args ...api.Term) api.Term {
	return api.Term{Kind: kind, Head: head, Args: args}
}

func pi(a, b api.Term) api.Term                { return node(api.Pi, 0, a, b) }
func lam(a api.Term) api.Term                  { return node(api.Lam, 0, a) }
func fam(head int, args ...api.Term) api.Term  { return node(api.Fam, head, args...) }
func vari(head int, args ...api.Term) api.Term { return node(api.Var, head, args...) }
func con(head int, args ...api.Term) api.Term  { return node(api.Const, head, args...) }
func hole(head int, args ...api.Term) api.Term { return node(api.Meta, head, args...) }

func ints(l ...int) []int { return l }

// varis are variables of these heads.
func varis(heads ...int) []api.Term {
	var l []api.Term
	for _, h := range heads {
		l = append(l, vari(h))
	}
	return l
}

// lams is a term below so many Lams.
func lams(n int, t api.Term) api.Term {
	for range n {
		t = lam(t)
	}
	return t
}

// wide is a constant of a term so many times.
func wide(n int, t api.Term) api.Term {
	return con(0, slices.Repeat([]api.Term{t}, n)...)
}

// rising are the numbers from 0 to below n, falling the same from the greatest on.
func rising(n int) []int {
	l := make([]int, n)
	for i := range l {
		l[i] = i
	}
	return l
}

func falling(n int) []int {
	l := rising(n)
	slices.Reverse(l)
	return l
}

func equal(a, b api.Term) bool {
	return a.Kind == b.Kind && a.Head == b.Head && slices.EqualFunc(a.Args, b.Args, equal)
}

// nought tells whether a term is the zero value, but that its Args may be an empty list.
func nought(t api.Term) bool { return t.Kind == 0 && t.Head == 0 && len(t.Args) == 0 }

func hold(t *testing.T, name string, x api.Term, vars []int, n int, want api.Term) {
	t.Helper()
	got, e := invert.Invert(x, vars, n)
	if e != api.OK || !equal(got, want) {
		t.Errorf("%s: %v, %v in %d: %v, %v, not %v", name, x, vars, n, got, e, want)
	}
}

func fail(t *testing.T, name string, x api.Term, vars []int, n int, want api.Errno) {
	t.Helper()
	got, e := invert.Invert(x, vars, n)
	if e != want || !nought(got) {
		t.Errorf("%s: %v, %v in %d: %v, %v, not noughts and %v", name, x, vars, n, got, e, want)
	}
}

// odd are terms that may not be.
func odd() map[string]api.Term {
	return map[string]api.Term{
		"kind below 0":      node(-1, 0, vari(0)),
		"kind Kinds":        node(api.Kinds, 0, vari(0)),
		"kind below":        con(0, vari(0), node(9, 0)),
		"Sort with a head":  con(0, vari(0), node(api.Sort, 1)),
		"Sort of one":       node(api.Sort, 0, vari(0)),
		"Pi with a head":    node(api.Pi, 1, vari(0), vari(0)),
		"Pi of none":        node(api.Pi, 0),
		"Pi of one":         node(api.Pi, 0, vari(0)),
		"Pi of three":       node(api.Pi, 0, vari(0), vari(0), vari(0)),
		"Lam with a head":   node(api.Lam, 1, vari(0)),
		"Lam of none":       node(api.Lam, 0),
		"Lam of two":        node(api.Lam, 0, vari(0), vari(0)),
		"Var below 0":       vari(-1, vari(0)),
		"Var below 0, deep": con(0, vari(0), lam(vari(-1))),
		"least Var":         vari(math.MinInt),
		"Const below 0":     con(-1, vari(0)),
		"Fam below 0":       fam(-1, vari(0)),
		"Meta below 0":      hole(-1, vari(0)),
		"Meta below 0 deep": lam(con(0, hole(0, hole(-1)))),
		"4001 nodes":        wide(api.MaxSize, vari(0)),
		"61 deep":           lams(api.MaxDepth, vari(60)),
	}
}

// P6.1

func TestInvert(t *testing.T) {
	for _, x := range []struct {
		name string
		t    api.Term
		vars []int
		n    int
		want api.Term
	}{
		{"the chapter's example, 0", vari(0), ints(2, 0), 3, vari(0)},
		{"the chapter's example, 2", vari(2), ints(2, 0), 3, vari(1)},
		{"the chapter's example, 3", vari(3), ints(2, 0), 3, vari(2)},
		{"the first one", vari(4), ints(4, 1, 3), 6, vari(2)},
		{"one in the middle", vari(1), ints(4, 1, 3), 6, vari(1)},
		{"the last one", vari(3), ints(4, 1, 3), 6, vari(0)},
		{"the first one of many", vari(7), ints(7, 3, 8, 0, 2, 9), 10, vari(5)},
		{"the second one of many", vari(3), ints(7, 3, 8, 0, 2, 9), 10, vari(4)},
		{"0 in the middle of many", vari(0), ints(7, 3, 8, 0, 2, 9), 10, vari(2)},
		{"the last one of many, just below n", vari(9), ints(7, 3, 8, 0, 2, 9), 10, vari(0)},
		{"all at once", con(0, varis(3, 1, 4, 1)...), ints(4, 1, 3), 6, con(0, varis(0, 1, 2, 1)...)},
		{"the only one", vari(5), ints(5), 6, vari(0)},
		{"0, the only one", vari(0), ints(0), 1, vari(0)},
		{"at n", vari(6), ints(4, 1, 3), 6, vari(3)},
		{"just above n", vari(7), ints(4, 1, 3), 6, vari(4)},
		{"far above n", vari(106), ints(4, 1, 3), 6, vari(103)},
		{"the greatest one", vari(math.MaxInt), ints(4, 1, 3), 6, vari(math.MaxInt - 3)},
		{"the greatest one, all kept", vari(math.MaxInt), ints(2, 1, 0), 3, vari(math.MaxInt)},
		{"just below n, which is the first one", vari(5), ints(5, 1, 3), 6, vari(2)},
		{"just below n, which is the last one", vari(5), ints(1, 3, 5), 6, vari(0)},
		{"no vars, n of 0", vari(0), nil, 0, vari(0)},
		{"no vars, n of 0, more", con(0, varis(0, 1, 9)...), nil, 0, con(0, varis(0, 1, 9)...)},
		{"no vars, n of more, at n", vari(3), nil, 3, vari(0)},
		{"no vars, n of more, above n", vari(5), nil, 3, vari(2)},
		{"no vars, n of more, none free", con(1, fam(0), lam(vari(0))), nil, 3, con(1, fam(0), lam(vari(0)))},
		{"no vars, an empty list", vari(5), ints(), 3, vari(2)},
		{"all, as Args in order", con(0, varis(0, 1, 2, 3, 9)...), ints(3, 2, 1, 0), 4, con(0, varis(0, 1, 2, 3, 9)...)},
		{"all, rising", con(0, varis(0, 1, 2, 3, 9)...), ints(0, 1, 2, 3), 4, con(0, varis(3, 2, 1, 0, 9)...)},
		{"all, in another order", con(0, varis(0, 1, 2, 3, 9)...), ints(2, 0, 3, 1), 4, con(0, varis(2, 0, 3, 1, 9)...)},
		{"all but one, none of it", con(0, varis(0, 1, 3, 4)...), ints(3, 1, 0), 4, con(0, varis(0, 1, 2, 3)...)},
		{"a variable may become a greater one", vari(0), ints(0, 4, 3, 2), 5, vari(3)},
		{"Sort", sort, ints(1), 2, sort},
		{"Fam, Const and Meta are no variables", con(0, fam(0), con(1), hole(0), sort), ints(1), 2, con(0, fam(0), con(1), hole(0), sort)},
		{"greatest heads of what is no variable", con(math.MaxInt, hole(math.MaxInt), fam(math.MaxInt)), nil, 1, con(math.MaxInt, hole(math.MaxInt), fam(math.MaxInt))},
	} {
		hold(t, x.name, x.t, x.vars, x.n, x.want)
	}
}

func TestBelowWhatBinds(t *testing.T) {
	vars, n := ints(4, 1, 3), 6
	for _, x := range []struct {
		name    string
		t, want api.Term
	}{
		{"the chapter's kind, below Lam", lam(con(1, varis(0, 5, 2, 4, 7, 9)...)), lam(con(1, varis(0, 3, 2, 1, 4, 6)...))},
		{"bound", lam(vari(0)), lam(vari(0))},
		{"just behind, in vars", lam(vari(2)), lam(vari(2))},
		{"at n, by what it is", lam(vari(7)), lam(vari(4))},
		{"just below n, by its Head", lam(vari(5)), lam(vari(3))},
		{"two Lams, both bound", lams(2, con(0, varis(0, 1)...)), lams(2, con(0, varis(0, 1)...))},
		{"two Lams, all in vars", lams(2, con(0, varis(3, 5, 6)...)), lams(2, con(0, varis(3, 2, 4)...))},
		{"two Lams, at n and more", lams(2, con(0, varis(8, 9, 18)...)), lams(2, con(0, varis(5, 6, 15)...))},
		{"three Lams", lams(3, con(0, varis(2, 4, 6, 7, 9)...)), lams(3, con(0, varis(2, 4, 3, 5, 6)...))},
		{"Pi binds in its last one", pi(sort, vari(0)), pi(sort, vari(0))},
		{"Pi binds not in its first one", pi(vari(1), sort), pi(vari(1), sort)},
		{"Pi, both", pi(vari(4), vari(4)), pi(vari(2), vari(1))},
		{"Pi, both at n", pi(vari(6), vari(7)), pi(vari(3), vari(4))},
		{"Pi within Pi, on the left", pi(pi(vari(3), vari(4)), vari(0)), pi(pi(vari(0), vari(1)), vari(0))},
		{"Pi within Pi, on the right", pi(vari(3), pi(vari(4), vari(6))), pi(vari(0), pi(vari(1), vari(4)))},
		{"Lam within Pi", pi(lam(vari(4)), lam(vari(6))), pi(lam(vari(1)), lam(vari(4)))},
		{"what is behind a Lam is free", con(0, lam(vari(0)), vari(4)), con(0, lam(vari(0)), vari(2))},
		{"Args of a meta", hole(3, varis(4, 3, 6)...), hole(3, varis(2, 0, 3)...)},
		{"Args of a meta, below Lam", lam(hole(0, varis(0, 5, 7)...)), lam(hole(0, varis(0, 3, 4)...))},
		{"the last one of a meta's Args is not bound", hole(2, vari(3), vari(1)), hole(2, vari(0), vari(1))},
		{"Args of a constant and a family", con(1, fam(4, vari(3)), vari(4)), con(1, fam(4, vari(0)), vari(2))},
		{"Args of a variable", vari(3, vari(1), lam(vari(0, vari(7)))), vari(0, vari(1), lam(vari(0, vari(4))))},
		{"Args of a variable around", vari(6, vari(4)), vari(3, vari(2))},
		{"59 Lams, in vars", lams(59, vari(63)), lams(59, vari(61))},
		{"59 Lams, at n", lams(59, vari(65)), lams(59, vari(62))},
		{"59 Lams, bound", lams(59, vari(58)), lams(59, vari(58))},
		{"4000 nodes", wide(3999, vari(4)), wide(3999, vari(2))},
	} {
		hold(t, x.name, x.t, vars, n, x.want)
	}
}

func TestWhatIsNotInVars(t *testing.T) {
	vars, n := ints(4, 1, 3), 6
	for _, x := range []struct {
		name string
		t    api.Term
	}{
		{"alone", vari(0)},
		{"alone, in the middle", vari(2)},
		{"alone, just below n", vari(5)},
		{"ahead of others", con(0, varis(2, 4, 1, 3)...)},
		{"among others", con(0, varis(4, 1, 2, 3, 6)...)},
		{"behind others", con(0, varis(4, 1, 3, 6, 0)...)},
		{"below Lam, alone", lam(vari(3))},
		{"below Lam, 0, just behind what is bound", lam(vari(1))},
		{"below Lam, just below n", lam(vari(6))},
		{"below Lam, beside others", lam(con(0, varis(0, 5, 7, 1)...))},
		{"below Lams, alone", lams(2, vari(4))},
		{"below Lams, 0", lams(3, vari(3))},
		{"below Lams, just below n", lams(3, vari(8))},
		{"below Lams, beside others", lams(2, con(0, varis(0, 1, 3, 5, 6, 8, 7)...))},
		{"below 59 Lams", lams(59, vari(59))},
		{"in the first one of Pi", pi(vari(0), vari(0))},
		{"in the last one of Pi", pi(vari(1), vari(1))},
		{"within the Args of a meta", hole(7, varis(4, 2)...)},
		{"within the Args of a meta, deep", lam(hole(1, hole(2, vari(5), vari(3))))},
		{"within the Args of a constant", con(3, vari(4), vari(0))},
		{"within the Args of a constant, deep", con(1, con(2, con(3, vari(5))), vari(1))},
		{"within the Args of a family", fam(0, vari(1), fam(1, vari(2)))},
		{"within the Args of one in vars", vari(4, vari(0))},
		{"within the Args of one around", vari(6, vari(0))},
		{"within the Args of a bound one", lam(vari(0, vari(1)))},
		{"applied to others in vars", vari(0, varis(4, 1, 3)...)},
		{"behind a Lam in which it is bound", con(0, lam(vari(0)), vari(0))},
		{"the last one of 4000 nodes", con(0, append(slices.Repeat(varis(4), 3998), vari(5))...)},
	} {
		fail(t, x.name, x.t, vars, n, api.ErrNone)
	}
	for n := 1; n < 8; n++ {
		for i := range n {
			fail(t, "no vars", vari(i), nil, n, api.ErrNone)
			fail(t, "no vars, below Lam", lam(vari(i+1)), nil, n, api.ErrNone)
		}
		fail(t, "all but 0", vari(0), rising(n)[1:], n, api.ErrNone)
		fail(t, "all but the greatest", vari(n-1), rising(n-1), n, api.ErrNone)
	}
}

func TestAThousandEntries(t *testing.T) {
	n := mostEntries
	for i := range n {
		hold(t, "in order", vari(i), falling(n), n, vari(i))
		hold(t, "rising", lam(vari(i+1)), rising(n), n, lam(vari(n-i)))
		hold(t, "alone", vari(i), ints(i), n, vari(0))
		fail(t, "no vars", vari(i), nil, n, api.ErrNone)
	}
	forth := make([]int, n)
	for i := range forth {
		forth[i] = (i*7 + 3) % n
	}
	for place, v := range forth {
		hold(t, "back and forth", vari(v), forth, n, vari(n-1-place))
	}
	for i := range 900 {
		hold(t, "nine hundred of them", vari(forth[i]), forth[:900], n, vari(899-i))
	}
	for _, v := range forth[900:] {
		fail(t, "one of the others", vari(v), forth[:900], n, api.ErrNone)
	}
	hold(t, "around", con(0, varis(1000, 1001, 5000)...), forth[:900], n, con(0, varis(900, 901, 4900)...))
	hold(t, "around, no vars", lam(con(0, varis(0, 1001, 1002)...)), nil, n, lam(con(0, varis(0, 1, 2)...)))
	hold(t, "999 entries", vari(999), falling(999), 999, vari(999))
	hold(t, "all at once", con(0, varis(forth...)...), forth, n, con(0, varis(falling(n)...)...))
}

// P6.1: ErrArg

func TestTermsThatMayNotBe(t *testing.T) {
	for name, x := range odd() {
		fail(t, name, x, ints(0), 1, api.ErrArg)
		fail(t, name+", all of many", x, falling(100), 100, api.ErrArg)
		fail(t, name+", no vars", x, nil, 0, api.ErrArg)
		fail(t, name+", and nothing in vars", x, nil, 100, api.ErrArg)
		fail(t, name+", and n below 0", x, nil, -1, api.ErrArg)
		fail(t, name+", and n of 1001", x, ints(0), 1001, api.ErrArg)
		fail(t, name+", and vars twice", x, ints(0, 0), 1, api.ErrArg)
		fail(t, name+", and vars at n", x, ints(1), 1, api.ErrArg)
		fail(t, name+", below Lam", lam(x), falling(9), 9, api.ErrArg)
	}
}

func TestN(t *testing.T) {
	x := con(0, lam(vari(0)))
	for _, n := range []int{0, 1, 2, 999, 1000} {
		hold(t, "n", x, nil, n, x)
	}
	for _, n := range []int{-1, -2, 1001, 1002, 1 << 20, math.MaxInt, math.MinInt} {
		fail(t, "no vars", x, nil, n, api.ErrArg)
		fail(t, "an empty list", x, ints(), n, api.ErrArg)
		fail(t, "vars", x, ints(1, 0), n, api.ErrArg)
		fail(t, "a variable that is in vars", vari(0), ints(0), n, api.ErrArg)
		fail(t, "a variable that is not in vars", vari(1), ints(0), n, api.ErrArg)
		fail(t, "vars twice", vari(1), ints(0, 0), n, api.ErrArg)
	}
	fail(t, "a variable at n", vari(1000), ints(1000), 1001, api.ErrArg)
	fail(t, "all of 1001", x, rising(1001), 1001, api.ErrArg)
}

func TestVars(t *testing.T) {
	for _, x := range []struct {
		name string
		vars []int
		n    int
	}{
		{"below 0", ints(-1), 3},
		{"below 0, the first one", ints(-1, 0, 1), 3},
		{"below 0, the last one", ints(0, 1, -1), 3},
		{"the least", ints(math.MinInt), 3},
		{"at n", ints(3), 3},
		{"at n, the first one", ints(3, 1, 2), 3},
		{"at n, the last one", ints(0, 1, 3), 3},
		{"above n", ints(4), 3},
		{"above n, the last one", ints(0, 2, 4), 3},
		{"the greatest", ints(math.MaxInt), 3},
		{"0 of n of 0", ints(0), 0},
		{"1 of n of 0", ints(1), 0},
		{"-1 of n of 0", ints(-1), 0},
		{"1000 of n of 1000", ints(1000), 1000},
		{"twice", ints(1, 1), 3},
		{"0 twice", ints(0, 0), 3},
		{"the greatest one twice", ints(2, 2), 3},
		{"twice, of n of 1", ints(0, 0), 1},
		{"twice, far from one another", ints(1, 0, 2, 1), 3},
		{"twice, the last ones", ints(2, 0, 1, 1), 3},
		{"twice, though there are no more than n", ints(0, 2, 0), 3},
		{"three times", ints(1, 1, 1), 3},
		{"below 0 twice", ints(-1, -1), 3},
		{"at n twice", ints(3, 3), 3},
		{"more than n", ints(0, 1, 2, 0), 3},
		{"many more than n", slices.Repeat(rising(3), 100000), 3},
		{"twice among a thousand", append(rising(999), 0), 1000},
		{"twice among a thousand, the last ones", append(rising(1000), 999), 1000},
		{"below 0, at n, and twice", ints(-1, 3, 0, 0), 3},
		{"twice, and at n", ints(0, 0, 3), 3},
	} {
		fail(t, x.name, con(1), x.vars, x.n, api.ErrArg)
		fail(t, x.name+", a variable is in them", lam(vari(2)), x.vars, x.n, api.ErrArg)
		fail(t, x.name+", a bound variable", lam(vari(0)), x.vars, x.n, api.ErrArg)
		fail(t, x.name+", one around", vari(2000), x.vars, x.n, api.ErrArg)
		for i := range max(x.n, 1) {
			fail(t, x.name+", each variable, in them or not", vari(i), x.vars, x.n, api.ErrArg)
		}
		for other, odd := range odd() {
			fail(t, x.name+", and "+other, odd, x.vars, x.n, api.ErrArg)
		}
	}
}

// R2: of a wrong argument and a variable that is not in vars the first one is told.
func TestAWrongArgumentComesAheadOfNone(t *testing.T) {
	fail(t, "the variable alone", con(0, vari(2)), ints(0), 3, api.ErrNone)
	fail(t, "n", con(0, vari(2)), ints(0), 1001, api.ErrArg)
	fail(t, "vars twice", con(0, vari(2)), ints(0, 0), 3, api.ErrArg)
	fail(t, "vars at n", con(0, vari(2)), ints(0, 3), 3, api.ErrArg)
	fail(t, "vars below 0", con(0, vari(2)), ints(0, -1), 3, api.ErrArg)
	fail(t, "the term, ahead of the variable", con(0, vari(-1), vari(2)), ints(0), 3, api.ErrArg)
	fail(t, "the term, behind the variable", con(0, vari(2), vari(-1)), ints(0), 3, api.ErrArg)
	fail(t, "the term is too great", wide(api.MaxSize, vari(2)), ints(0), 3, api.ErrArg)
	fail(t, "the term is too deep", lams(api.MaxDepth, vari(62)), ints(0), 3, api.ErrArg)
	fail(t, "all of them", con(0, vari(2), vari(-1)), ints(0, 0, -1, 3), -1, api.ErrArg)
}
