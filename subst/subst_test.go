package subst_test

import (
	"math"
	"slices"
	"testing"

	"amanuensis/api"
	"amanuensis/shift"
	"amanuensis/subst"
)

const (
	mostTerms = 200
	mostShift = 1 << 20
)

var sort = api.Term{Kind: api.Sort}

func node(kind, head int, args ...api.Term) api.Term {
	return api.Term{Kind: kind, Head: head, Args: args}
}

func pi(a, b api.Term) api.Term                { return node(api.Pi, 0, a, b) }
func lam(a api.Term) api.Term                  { return node(api.Lam, 0, a) }
func fam(head int, args ...api.Term) api.Term  { return node(api.Fam, head, args...) }
func vari(head int, args ...api.Term) api.Term { return node(api.Var, head, args...) }
func con(head int, args ...api.Term) api.Term  { return node(api.Const, head, args...) }
func meta(head int, args ...api.Term) api.Term { return node(api.Meta, head, args...) }

// by is a substitution of these terms, the last one for the variable 0.
func by(shift int, l ...api.Term) api.Subst { return api.Subst{L: l, Shift: shift} }

func list(l ...api.Term) []api.Term { return l }

func times(n int, t api.Term) []api.Term { return slices.Repeat([]api.Term{t}, n) }

// lams is a term below so many Lams.
func lams(n int, t api.Term) api.Term {
	for range n {
		t = lam(t)
	}
	return t
}

// wide is a constant of so many constants: one node more.
func wide(n int) api.Term { return con(0, times(n, con(1))...) }

// deep is so many nodes, one within the other.
func deep(n int) api.Term {
	t := con(1)
	for range n - 1 {
		t = con(0, t)
	}
	return t
}

func equal(a, b api.Term) bool {
	return a.Kind == b.Kind && a.Head == b.Head && slices.EqualFunc(a.Args, b.Args, equal)
}

func equalSubst(a, b api.Subst) bool {
	return a.Shift == b.Shift && slices.EqualFunc(a.L, b.L, equal)
}

func copied(t api.Term) api.Term {
	return node(t.Kind, t.Head, copiedList(t.Args)...)
}

func copiedList(l []api.Term) []api.Term {
	l = slices.Clone(l)
	for i := range l {
		l[i] = copied(l[i])
	}
	return l
}

func copiedSubst(s api.Subst) api.Subst { return by(s.Shift, copiedList(s.L)...) }

// nought tells whether a term is the zero value.
func nought(t api.Term) bool { return t.Kind == 0 && t.Head == 0 && len(t.Args) == 0 }

// odd are terms that may not be.
func odd() map[string]api.Term {
	return map[string]api.Term{
		"kind below 0":      node(-1, 0),
		"kind Kinds":        node(api.Kinds, 0),
		"kind below":        con(0, vari(0), node(9, 0)),
		"Sort with a head":  node(api.Sort, 1),
		"Sort of one":       node(api.Sort, 0, sort),
		"Pi of none":        node(api.Pi, 0),
		"Pi of one":         node(api.Pi, 0, sort),
		"Pi of three":       node(api.Pi, 0, sort, sort, sort),
		"Lam with a head":   node(api.Lam, 1, sort),
		"Lam of none":       node(api.Lam, 0),
		"Lam of two":        node(api.Lam, 0, vari(0), vari(0)),
		"Var below 0":       vari(-1),
		"Var below 0, deep": con(0, lam(vari(-1))),
		"least Var":         vari(math.MinInt),
		"Const below 0":     con(-1),
		"Fam below 0":       fam(-1),
		"Meta below 0":      meta(-1),
		"4001 nodes":        wide(api.MaxSize),
		"61 deep":           deep(api.MaxDepth + 1),
		"2^16 deep":         deep(1 << 16),
	}
}

// holds holds what a call answers against what it should, or against an error with noughts beside it.
func holds(t *testing.T, name string, got api.Term, e api.Errno, want api.Term, wantE api.Errno) {
	t.Helper()
	if e != wantE {
		t.Errorf("%s: error %d, not %d", name, e, wantE)
	} else if e != api.OK && !nought(got) {
		t.Errorf("%s: %v beside the error %d", name, got, e)
	} else if e == api.OK && !equal(got, want) {
		t.Errorf("%s: %v, not %v", name, got, want)
	}
}

func holdApply(t *testing.T, name string, x api.Term, s api.Subst, want api.Term) {
	t.Helper()
	got, e := subst.Apply(x, s)
	holds(t, "Apply: "+name, got, e, want, api.OK)
}

func failApply(t *testing.T, name string, x api.Term, s api.Subst, want api.Errno) {
	t.Helper()
	got, e := subst.Apply(x, s)
	holds(t, "Apply: "+name, got, e, api.Term{}, want)
}

func holdSpine(t *testing.T, name string, x api.Term, args []api.Term, want api.Term) {
	t.Helper()
	got, e := subst.Spine(x, args)
	holds(t, "Spine: "+name, got, e, want, api.OK)
}

func failSpine(t *testing.T, name string, x api.Term, args []api.Term, want api.Errno) {
	t.Helper()
	got, e := subst.Spine(x, args)
	holds(t, "Spine: "+name, got, e, api.Term{}, want)
}

// P3.1

func TestUnder(t *testing.T) {
	for _, x := range []struct {
		name    string
		s, want api.Subst
	}{
		{"no term", by(0), by(1, vari(0))},
		{"noughts", api.Subst{}, by(1, vari(0))},
		{"no term, Shift 4", by(4), by(5, vari(0))},
		{"one", by(2, vari(4)), by(3, vari(5), vari(0))},
		{"three, in order", by(1, vari(7), con(1), vari(0)), by(2, vari(8), con(1), vari(1), vari(0))},
		{"what is bound stays", by(0, lam(vari(0, vari(1))), pi(vari(0), vari(0))), by(1, lam(vari(0, vari(2))), pi(vari(1), vari(0)), vari(0))},
		{"what may not be is a copy", by(0, vari(-1), vari(3), node(9, 0, vari(3))), by(1, vari(-1), vari(4), node(9, 0, vari(3)), vari(0))},
		{"Shift at its greatest", by(mostShift), by(mostShift+1, vari(0))},
		{"Shift -1", by(-1), by(0, vari(0))},
		{"the least Shift", by(math.MinInt), by(math.MinInt+1, vari(0))},
		{"the sum wraps around", by(math.MaxInt), by(math.MinInt, vari(0))},
		{"a variable wraps around", by(0, vari(math.MaxInt)), by(1, vari(math.MinInt), vari(0))},
		{"200", by(0, times(200, vari(1))...), by(1, append(times(200, vari(2)), vari(0))...)},
		{"201", by(0, times(201, vari(1))...), by(1, append(times(201, vari(2)), vari(0))...)},
		{"twice", subst.Under(by(0, vari(3))), by(2, vari(5), vari(1), vari(0))},
	} {
		if got := subst.Under(x.s); !equalSubst(got, x.want) {
			t.Errorf("%s: %v, not %v", x.name, got, x.want)
		}
	}
}

// Under maps 0 to the variable 0, and i + 1 to what was mapped from i, up by one.
func TestUnderMaps(t *testing.T) {
	for _, s := range substs() {
		under := subst.Under(s)
		holdApply(t, "the variable 0", vari(0), under, vari(0))
		for i := range len(s.L) + 3 {
			was, e := subst.Apply(vari(i), s)
			if e != api.OK {
				t.Fatalf("%v: error %d of the variable %d", s, e, i)
			}
			holdApply(t, "one more", vari(i+1), under, shift.Up(was, 1, 0))
		}
	}
}

func TestSame(t *testing.T) {
	for _, x := range []struct{ n, counts int }{
		{math.MinInt, 0}, {-2, 0}, {-1, 0}, {0, 0}, {1, 1}, {2, 2}, {3, 3}, {40, 40},
		{199, 199}, {200, 200}, {201, 200}, {202, 200}, {mostShift, 200}, {math.MaxInt, 200},
	} {
		want := by(x.counts)
		for i := range x.counts {
			want.L = append(want.L, vari(x.counts-1-i))
		}
		if got := subst.Same(x.n); !equalSubst(got, want) {
			t.Errorf("Same(%d) is %v", x.n, got)
		}
	}
}

// P3.2

// substs are many small substitutions.
func substs() []api.Subst {
	return []api.Subst{
		{}, by(1), by(3), by(mostShift - 1),
		by(0, con(7)), by(2, con(7)), by(0, vari(0)), by(1, vari(0)), by(0, vari(4)), by(5, vari(2)),
		by(0, vari(0), vari(1)), by(2, vari(1), vari(0)), by(1, con(1), vari(3, vari(0))),
		by(0, lam(vari(0))), by(0, lam(vari(1))), by(1, lam(lam(vari(1))), lam(con(1, vari(0), vari(2)))),
		by(3, lam(vari(0, vari(1))), fam(1, vari(2)), con(2, con(3))),
		by(0, lam(vari(0, vari(0))), lam(con(1, vari(0), vari(0)))),
		by(0, meta(0, vari(1)), sort), by(2, pi(vari(0), vari(0)), meta(1)),
		by(1, lam(lam(lam(vari(2, vari(0), vari(1))))), lam(lam(vari(1, vari(1, vari(0)))))),
		subst.Same(1), subst.Same(2), subst.Same(5),
	}
}

func TestApplyToVariables(t *testing.T) {
	s := by(10, con(2), con(1), con(0))
	for i, want := range []api.Term{con(0), con(1), con(2), vari(10), vari(11), vari(12)} {
		holdApply(t, "a variable alone", vari(i), s, want)
		holdApply(t, "in a constant", con(9, vari(i), sort), s, con(9, want, sort))
		// Below what binds each is one more, and so is what a variable becomes.
		up := shift.Up(want, 1, 0)
		holdApply(t, "below Lam", lam(vari(i+1)), s, lam(up))
		holdApply(t, "in the last one of Pi", pi(sort, vari(i+1)), s, pi(sort, up))
		holdApply(t, "in the first one of Pi", pi(vari(i), sort), s, pi(want, sort))
		holdApply(t, "below two Lams", lams(2, vari(i+2)), s, lams(2, shift.Up(want, 2, 0)))
	}
	holdApply(t, "no term, Shift 0", con(1, vari(0), vari(7)), by(0), con(1, vari(0), vari(7)))
	holdApply(t, "no term, Shift 2", con(1, vari(0), lam(con(1, vari(0), vari(1)))), by(2), con(1, vari(2), lam(con(1, vari(0), vari(3)))))
	holdApply(t, "less than it was", vari(5), by(1, con(1), con(2)), vari(4))
	holdApply(t, "the first of L is for the last variable", vari(1), by(0, con(1), con(2)), con(1))
}

func TestApplyBelowWhatBinds(t *testing.T) {
	s := by(4, vari(2), con(7, vari(0)))
	for _, x := range []struct {
		name    string
		t, want api.Term
	}{
		{"bound by Lam", lam(vari(0)), lam(vari(0))},
		{"bound by the nearest of two", lam(lam(vari(0))), lam(lam(vari(0)))},
		{"bound by the other one of two", lam(lam(vari(1))), lam(lam(vari(1)))},
		{"bound by Pi", pi(sort, vari(0)), pi(sort, vari(0))},
		{"Pi binds not in its first one", pi(vari(0), vari(0)), pi(con(7, vari(0)), vari(0))},
		{"a term goes up below Lam", lam(vari(1)), lam(con(7, vari(1)))},
		{"below two", lam(lam(vari(2))), lam(lam(con(7, vari(2))))},
		{"the other term", lam(lam(vari(3))), lam(lam(vari(4)))},
		{"behind both", lam(lam(vari(4))), lam(lam(vari(6)))},
		{"Pi within Pi", pi(vari(1), pi(vari(1), vari(2))), pi(vari(2), pi(con(7, vari(1)), con(7, vari(2))))},
		{"Pi within Pi, on the left", pi(pi(sort, vari(1)), vari(0)), pi(pi(sort, con(7, vari(1))), vari(0))},
		{"what is behind a Lam is free", con(0, lam(vari(0)), vari(0)), con(0, lam(vari(0)), con(7, vari(0)))},
		{"a bound variable keeps its Args", lam(vari(0, vari(1), vari(0))), lam(vari(0, con(7, vari(1)), vari(0)))},
		{"one term at two heights", con(0, vari(0), lam(con(0, vari(1), lam(vari(2)))), vari(0)), con(0, con(7, vari(0)), lam(con(0, con(7, vari(1)), lam(con(7, vari(2))))), con(7, vari(0)))},
		{"two terms at one height", lam(con(0, vari(1), vari(2), vari(1), vari(2))), lam(con(0, con(7, vari(1)), vari(3), con(7, vari(1)), vari(3)))},
		{"Meta binds nothing", meta(3, vari(0), vari(2)), meta(3, con(7, vari(0)), vari(4))},
		{"Fam and Const bind nothing", fam(1, con(2, vari(1))), fam(1, con(2, vari(2)))},
		{"Sort", sort, sort},
		{"nothing free", con(0, fam(1), meta(2), lam(vari(0))), con(0, fam(1), meta(2), lam(vari(0)))},
		{"59 Lams, bound", lams(59, vari(58)), lams(59, vari(58))},
		{"58 Lams", lams(58, vari(58)), lams(58, con(7, vari(58)))},
	} {
		holdApply(t, x.name, x.t, s, x.want)
	}
	holdApply(t, "a term's own Lam", lam(vari(1)), by(0, lam(con(1, vari(0), vari(1)))), lam(lam(con(1, vari(0), vari(2)))))
	holdApply(t, "the Shift goes up", lam(vari(1)), by(3, vari(0)), lam(vari(1)))
	holdApply(t, "no term, below Lam", lam(con(1, vari(0), vari(1))), by(3), lam(con(1, vari(0), vari(4))))
}

func TestApplyReduces(t *testing.T) {
	id, k := lam(vari(0)), lam(lam(vari(1)))
	twice := lam(lam(vari(1, vari(1, vari(0)))))
	for _, x := range []struct {
		name string
		t    api.Term
		s    api.Subst
		want api.Term
	}{
		{"the chapter's example", vari(0, con(1)), by(0, id), con(1)},
		{"as many args as Lams", vari(0, con(1), con(2)), by(0, k), con(1)},
		{"fewer args than Lams", vari(0, con(1)), by(0, k), lam(con(1))},
		{"more args than Lams", vari(0, con(1, con(4)), con(2), con(3)), by(0, k), con(1, con(4), con(3))},
		{"no args", vari(0), by(0, k), k},
		{"args are under the substitution", vari(1, vari(0), lam(vari(1))), by(0, lam(lam(con(1, vari(1), vari(0)))), con(5)), con(1, con(5), lam(con(5)))},
		{"a constant takes args behind its own", vari(0, con(1), con(4)), by(0, con(2, con(3))), con(2, con(3), con(1), con(4))},
		{"a family likewise", vari(0, con(1)), by(0, fam(2, con(3))), fam(2, con(3), con(1))},
		{"a variable likewise", vari(0, vari(0, con(1))), by(0, vari(6, con(3))), vari(6, con(3), vari(6, con(3), con(1)))},
		{"a variable behind L keeps its Args", vari(2, vari(0), vari(1)), by(1, con(5)), vari(2, con(5), vari(1))},
		{"below Lam, with what is bound", lam(vari(1, vari(0))), by(0, lam(con(1, vari(0), vari(2)))), lam(con(1, vari(0), vari(2)))},
		{"one of two is bound", lam(vari(1, vari(0), con(3))), by(0, k), lam(vari(0))},
		{"twice twice", vari(0, vari(0), lam(con(1, vari(0)))), by(0, twice), lam(con(1, con(1, con(1, con(1, vari(0))))))},
		{"what an arg brings is reduced", vari(0, id), by(0, lam(vari(0, con(1)))), con(1)},
		{"in an arg's arg", vari(0, k), by(0, lam(con(9, vari(0, con(1), con(2))))), con(9, con(1))},
		{"a free variable of a Lam is free", vari(0, con(1)), by(0, lam(con(1, vari(3), vari(0)))), con(1, vari(2), con(1))},
		{"what is around a Lam is not applied to twice", vari(0, con(1)), by(0, con(8), lam(con(1, vari(1), vari(2)))), con(1, vari(0), vari(1))},
	} {
		holdApply(t, x.name, x.t, x.s, x.want)
	}
}

func TestSpine(t *testing.T) {
	k := lam(lam(vari(1)))
	for _, x := range []struct {
		name string
		t    api.Term
		args []api.Term
		want api.Term
	}{
		{"a Lam, fewer args than Lams", k, list(con(1)), lam(con(1))},
		{"a Lam, as many", k, list(con(1), con(2)), con(1)},
		{"a Lam, more", k, list(con(1), con(2), con(3)), con(1, con(3))},
		{"a Lam, two more", k, list(con(1), con(2), con(3), con(4)), con(1, con(3), con(4))},
		{"a Lam that tells one", k, list(lam(con(1, vari(0))), con(2), con(3)), con(1, con(3))},
		{"an arg goes up below a Lam", k, list(vari(4, vari(0))), lam(vari(5, vari(1)))},
		{"an arg is as it was", k, list(vari(4, vari(0)), vari(1)), vari(4, vari(0))},
		{"the second arg", lam(lam(vari(0))), list(con(1), vari(3)), vari(3)},
		{"what is free in a Lam is one less", lam(vari(3, vari(0), vari(1))), list(con(1)), vari(2, con(1), vari(0))},
		{"what is free in two Lams is two less", lams(2, vari(3, vari(2))), list(con(1), con(2)), vari(1, vari(0))},
		{"a Lam's bound variable is none of the args'", lam(lam(con(1, vari(0), vari(1)))), list(vari(0)), lam(con(1, vari(0), vari(1)))},
		{"a Lam in a Pi", lam(pi(vari(0), vari(1))), list(fam(1, vari(0))), pi(fam(1, vari(0)), fam(1, vari(1)))},
		{"a Lam of a Sort", lam(sort), list(con(1)), sort},
		{"a Lam of a Meta", lam(meta(1, vari(0))), list(con(1)), meta(1, con(1))},
		{"a variable", vari(3), list(con(1), vari(0)), vari(3, con(1), vari(0))},
		{"a variable with Args", vari(3, con(5)), list(con(1), vari(0)), vari(3, con(5), con(1), vari(0))},
		{"a constant", con(3, con(5)), list(con(1), vari(0)), con(3, con(5), con(1), vari(0))},
		{"a family", fam(3, con(5)), list(con(1), vari(0)), fam(3, con(5), con(1), vari(0))},
		{"any terms as args", con(0), list(sort, pi(sort, sort), lam(sort), meta(0)), con(0, sort, pi(sort, sort), lam(sort), meta(0))},
	} {
		holdSpine(t, x.name, x.t, x.args, x.want)
	}
}

func TestSpineWithoutArgs(t *testing.T) {
	for _, x := range []api.Term{sort, pi(sort, vari(0)), fam(1, con(1)), lam(vari(0)), vari(3, vari(1)), con(2, vari(0)), meta(0, vari(1)), wide(api.MaxSize - 1), deep(api.MaxDepth)} {
		holdSpine(t, "args nil", x, nil, x)
		holdSpine(t, "args empty", x, list(), x)
	}
}

func TestSpineOfWhatTakesNothing(t *testing.T) {
	for _, x := range []api.Term{sort, pi(sort, vari(0)), meta(0), meta(2, vari(0))} {
		failSpine(t, "at once", x, list(con(1)), api.ErrType)
		failSpine(t, "two args", x, list(con(1), con(2)), api.ErrType)
		failSpine(t, "in a Lam, one arg more", lam(x), list(con(1), con(2)), api.ErrType)
		failApply(t, "for a variable", vari(0, con(1)), by(0, x), api.ErrType)
		failApply(t, "for a variable, deep", lam(con(0, vari(0), pi(sort, vari(2, con(1))))), by(0, x), api.ErrType)
		failApply(t, "in a Lam", vari(0, con(1), con(2)), by(0, lam(x)), api.ErrType)
		failApply(t, "as an arg", vari(0, x), by(0, lam(vari(0, con(1)))), api.ErrType)
		holdApply(t, "without Args", vari(0), by(0, x), x)
		holdSpine(t, "in a Lam, as many args", lams(3, x), times(3, con(9)), lowered(x))
	}
}

// lowered is what three constants make of a term below three Lams: its free variables are these.
func lowered(t api.Term) api.Term {
	if t.Kind == api.Meta && len(t.Args) > 0 {
		return meta(t.Head, con(9))
	}
	return t
}

func TestTermsThatMayNotBe(t *testing.T) {
	for name, x := range odd() {
		failApply(t, name, x, by(0), api.ErrArg)
		failApply(t, name+", with a term", x, by(0, con(1)), api.ErrArg)
		failApply(t, name+", in L", sort, by(0, x), api.ErrArg)
		failApply(t, name+", first in L", vari(0), by(0, x, con(1)), api.ErrArg)
		failApply(t, name+", last in L", vari(9), by(0, con(1), x), api.ErrArg)
		failApply(t, name+", both", x, by(-1, x), api.ErrArg)
		failSpine(t, name+", no args", x, nil, api.ErrArg)
		failSpine(t, name+", with args", x, list(con(1)), api.ErrArg)
		failSpine(t, name+", as an arg", con(0), list(x), api.ErrArg)
		failSpine(t, name+", as the last arg", lam(con(0)), list(con(1), con(2), x), api.ErrArg)
		failSpine(t, name+", as an arg of what takes none", sort, list(x), api.ErrArg)
	}
}

func TestSubstitutionsThatMayNotBe(t *testing.T) {
	for _, x := range []api.Term{sort, vari(0), lam(vari(0)), con(1, vari(300))} {
		for _, n := range []int{-1, -2, math.MinInt, mostShift + 1, 2 * mostShift, math.MaxInt} {
			failApply(t, "Shift", x, by(n), api.ErrArg)
			failApply(t, "Shift, with a term", x, by(n, con(1)), api.ErrArg)
		}
		failApply(t, "201", x, by(0, times(mostTerms+1, con(1))...), api.ErrArg)
		failApply(t, "300", x, by(0, times(300, con(1))...), api.ErrArg)
	}
	holdApply(t, "Shift 0", vari(7), by(0), vari(7))
	holdApply(t, "Shift 2^20", vari(7), by(mostShift), vari(7+mostShift))
	holdApply(t, "Shift 2^20 below Lam", lam(vari(7)), by(mostShift), lam(vari(7+mostShift)))
	holdApply(t, "Shift 2^20 below 59 Lams", lams(59, vari(59)), by(mostShift), lams(59, vari(59+mostShift)))
}

func TestTwoHundredTerms(t *testing.T) {
	s := by(3)
	for i := range mostTerms {
		s.L = append(s.L, con(mostTerms-1-i))
	}
	for _, i := range []int{0, 1, 100, 198, 199} {
		holdApply(t, "of 200", vari(i), s, con(i))
		holdApply(t, "of 200 below Lam", lam(vari(i+1)), s, lam(con(i)))
		holdApply(t, "of 200 below 59 Lams", lams(59, vari(i+59)), s, lams(59, con(i)))
	}
	holdApply(t, "behind 200", vari(200), s, vari(3))
	holdApply(t, "behind 200, one more", vari(201), s, vari(4))
	holdApply(t, "behind 200 below Lam", lam(vari(201)), s, lam(vari(4)))
	holdApply(t, "bound, with 200", lam(vari(0)), s, lam(vari(0)))
}
