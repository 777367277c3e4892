package meta_test

import (
	"math"
	"slices"
	"testing"

	"amanuensis/api"
	"amanuensis/meta"
)

const (
	mostTerms   = 200
	mostEntries = 1000
)

var sort = api.Term{Kind: api.Sort}

func node(kind, head int, args ...api.Term) api.Term {
	return api.Term{Kind: kind, Head: head, Args: args}
}

func pi(a, b api.Term) api.Term                { return node(api.Pi, 0, a, b) }
func lam(a api.Term) api.Term                  { return node(api.Lam, 0, a) }
func fam(head int, args ...api.Term) api.Term  { return node(api.Fam, head, args...) }
func vari(head int, args ...api.Term) api.Term { return node(api.Var, head, args...) }
func con(head int, args ...api.Term) api.Term  { return node(api.Const, head, args...) }
func hole(head int, args ...api.Term) api.Term { return node(api.Meta, head, args...) }

func list(l ...api.Term) []api.Term { return l }

func times(n int, t api.Term) []api.Term { return slices.Repeat([]api.Term{t}, n) }

// lams is a term below so many Lams.
func lams(n int, t api.Term) api.Term {
	for range n {
		t = lam(t)
	}
	return t
}

// below is a term within so many constants, one within the other.
func below(n int, t api.Term) api.Term {
	for range n {
		t = con(0, t)
	}
	return t
}

// wide is so many nodes, deep so many one within the other.
func wide(n int) api.Term { return con(0, times(n-1, con(1))...) }
func deep(n int) api.Term { return below(n-1, con(1)) }

func equal(a, b api.Term) bool {
	return a.Kind == b.Kind && a.Head == b.Head && slices.EqualFunc(a.Args, b.Args, equal)
}

// nought tells whether a term is the zero value.
func nought(t api.Term) bool { return t.Kind == 0 && t.Head == 0 && len(t.Args) == 0 }

// odd are terms that may not be.
func odd() map[string]api.Term {
	ring := list(con(0))
	ring[0].Args = ring
	return map[string]api.Term{
		"kind below 0":         node(-1, 0),
		"kind Kinds":           node(api.Kinds, 0),
		"kind below":           con(0, hole(0), node(9, 0)),
		"Sort with a head":     node(api.Sort, 1),
		"Sort of one":          node(api.Sort, 0, sort),
		"Pi of none":           node(api.Pi, 0),
		"Pi of one":            node(api.Pi, 0, sort),
		"Pi of three":          node(api.Pi, 0, sort, sort, sort),
		"Lam with a head":      node(api.Lam, 1, sort),
		"Lam of none":          node(api.Lam, 0),
		"Lam of two":           node(api.Lam, 0, hole(0), vari(0)),
		"Var below 0":          vari(-1),
		"Const below 0":        con(-1),
		"Fam below 0":          fam(-1),
		"Meta below 0":         hole(-1),
		"Meta below 0, within": lam(hole(0, hole(-1))),
		"least Meta":           hole(math.MinInt),
		"4001 nodes":           wide(api.MaxSize + 1),
		"61 deep":              deep(api.MaxDepth + 1),
		"2^16 deep":            deep(1 << 16),
		"within itself":        ring[0],
	}
}

// holds holds what Fill answers against what it should, or against an error with noughts beside it.
func holds(t *testing.T, name string, got api.Term, e api.Errno, want api.Term, wantE api.Errno) {
	t.Helper()
	if e != wantE {
		t.Errorf("%s: error %d, not %d", name, e, wantE)
	} else if e != api.OK && !nought(got) {
		t.Errorf("%s: %v beside the error %d", name, got, e)
	} else if e == api.OK && !equal(got, want) {
		t.Errorf("%s: %v, not %v", name, got, want)
	}
}

func hold(t *testing.T, name string, x api.Term, theta []api.Term, n int, want api.Term) {
	t.Helper()
	got, e := meta.Fill(x, theta, n)
	holds(t, name, got, e, want, api.OK)
}

func fail(t *testing.T, name string, x api.Term, theta []api.Term, n int, want api.Errno) {
	t.Helper()
	got, e := meta.Fill(x, theta, n)
	holds(t, name, got, e, api.Term{}, want)
}

// P4.1

func TestFill(t *testing.T) {
	theta := list(lam(vari(1)), con(2, vari(0), vari(1)), con(7), lams(2, con(3, vari(2), vari(3), vari(0), vari(4))))
	for _, x := range []struct {
		name string
		t    api.Term
		n    int
		want api.Term
	}{
		{"the chapter's example", hole(0, vari(3)), 5, lam(vari(4))},
		{"without Args, without variables", hole(2), 0, con(7)},
		{"without Args, a variable is of the context around", hole(1), 0, con(2, vari(0), vari(1))},
		{"without Args, in 3 entries", hole(1), 3, con(2, vari(3), vari(4))},
		{"one own entry, and one around", hole(1, con(7)), 3, con(2, con(7), vari(3))},
		{"two own entries: the last one is the variable 0", hole(1, con(8), con(9)), 3, con(2, con(9), con(8))},
		{"three own entries, one of them not in it", hole(1, con(8), con(9), con(10)), 3, con(2, con(10), con(9))},
		{"own entries below Lams", hole(3, con(8), vari(0)), 2, lams(2, con(3, vari(2), con(8), vari(0), vari(4)))},
		{"around below Lams", hole(3), 2, lams(2, con(3, vari(4), vari(5), vari(0), vari(6)))},
		{"entries of which none is in it", hole(2, con(8), lam(vari(0))), 4, con(7)},
		{"below Lam there is an entry more", lam(hole(1, vari(0))), 2, lam(con(2, vari(0), vari(3)))},
		{"below two Lams two", lams(2, hole(1)), 2, lams(2, con(2, vari(4), vari(5)))},
		{"in the last one of Pi one more", pi(hole(2), hole(1)), 2, pi(con(7), con(2, vari(3), vari(4)))},
		{"in the first one of Pi none more", pi(hole(1), hole(2)), 2, pi(con(2, vari(2), vari(3)), con(7))},
		{"Pi within Pi", pi(sort, pi(hole(1), hole(1))), 0, pi(sort, pi(con(2, vari(1), vari(2)), con(2, vari(2), vari(3))))},
		{"Pi within Pi, on the left", pi(pi(sort, hole(1)), hole(1)), 0, pi(pi(sort, con(2, vari(1), vari(2))), con(2, vari(1), vari(2)))},
		{"behind a Lam none more", con(0, lam(vari(0)), hole(1)), 1, con(0, lam(vari(0)), con(2, vari(1), vari(2)))},
		{"Fam, Const, Var and Meta bind nothing", fam(0, con(0, vari(0, hole(1, hole(1))))), 1, fam(0, con(0, vari(0, con(2, con(2, vari(1), vari(2)), vari(1)))))},
		{"a Meta within the Args", hole(1, hole(1, vari(0))), 1, con(2, con(2, vari(0), vari(1)), vari(1))},
		{"a Meta within the Args, below Lam", hole(3, lam(hole(1, vari(0)))), 1, lams(2, con(3, lam(con(2, vari(0), vari(4))), vari(3), vari(0), vari(4)))},
		{"the same Meta within its Args", hole(0, hole(0, vari(0))), 1, lams(2, vari(2))},
		{"a Lam as an Arg", hole(1, lam(vari(1))), 2, con(2, lam(vari(1)), vari(2))},
		{"several", con(0, hole(2), hole(1, hole(2)), sort, vari(5)), 1, con(0, con(7), con(2, con(7), vari(1)), sort, vari(5))},
		{"58 Lams", lams(58, hole(2)), 0, lams(58, con(7))},
		{"57 Lams, and what is around", lams(57, hole(1)), 10, lams(57, con(2, vari(67), vari(68)))},
	} {
		hold(t, x.name, x.t, theta, x.n, x.want)
	}
}

// What was filled has nothing to reduce.
func TestFillReduces(t *testing.T) {
	theta := list(vari(0, con(1)), vari(1, vari(0)), lam(vari(1, vari(0))), con(4, vari(0, vari(1))))
	hold(t, "a Lam as the Arg of what applies it", hole(0, lam(con(5, vari(0)))), theta, 0, con(5, con(1)))
	hold(t, "one Arg to another", hole(1, lam(con(5, vari(0))), con(6)), theta, 0, con(5, con(6)))
	hold(t, "below Lam", hole(2, lam(con(5, vari(0), vari(3)))), theta, 3, lam(con(5, vari(0), vari(3))))
	hold(t, "what an Arg became", hole(0, hole(2, lam(con(5, vari(0))))), theta, 0, con(5, con(1)))
	hold(t, "a variable gets Args", hole(0, vari(2, con(8))), theta, 3, vari(2, con(8), con(1)))
	hold(t, "a constant gets Args", hole(0, con(2, con(8))), theta, 3, con(2, con(8), con(1)))
	hold(t, "Args in a constant", hole(3, con(6), lam(con(5, vari(0)))), theta, 0, con(4, con(5, con(6))))
}

// What is told for metas may have metas, which are others: they stay.
func TestMetasOfTheta(t *testing.T) {
	theta := list(hole(1, vari(0)), con(9), hole(7))
	hold(t, "one that theta has", hole(0, vari(2)), theta, 4, hole(1, vari(2)))
	hold(t, "one that theta has not", hole(2), theta, 4, hole(7))
	hold(t, "in an Arg", hole(0, hole(2)), theta, 4, hole(1, hole(7)))
	hold(t, "itself", hole(0), list(hole(0)), 0, hole(0))
}

func TestHeadsOfMetas(t *testing.T) {
	for _, n := range []int{0, 1, 2, 3, 199, 200} {
		var theta []api.Term
		for i := range n {
			theta = append(theta, con(i))
		}
		for _, head := range []int{0, 1, n - 1, n, n + 1, 2 * n, 200, 1 << 20, math.MaxInt} {
			for _, args := range [][]api.Term{nil, list(vari(0)), list(con(1), lam(vari(0)))} {
				x := hole(max(head, 0), args...)
				if x.Head < n {
					hold(t, "there is one", x, theta, 1, con(x.Head))
					hold(t, "there is one", lam(con(n, x)), theta, 1, lam(con(n, con(x.Head))))
				} else {
					fail(t, "there is none", x, theta, 1, api.ErrScope)
					fail(t, "there is none", lam(con(n, x)), theta, 1, api.ErrScope)
				}
			}
		}
	}
}

// P4.1: ErrArg

func TestTermsThatMayNotBe(t *testing.T) {
	for name, x := range odd() {
		fail(t, name, x, nil, 0, api.ErrArg)
		fail(t, name+", with theta", x, list(con(1)), 3, api.ErrArg)
		fail(t, name+", for a Meta", hole(0), list(x), 0, api.ErrArg)
		fail(t, name+", for another Meta", hole(0), list(con(1), x), 0, api.ErrArg)
		fail(t, name+", for a Meta ahead", hole(2), list(con(1), x, con(2)), 0, api.ErrArg)
		fail(t, name+", for a Meta that is not in it", sort, list(x), 0, api.ErrArg)
		fail(t, name+", all over", x, list(x), -1, api.ErrArg)
		fail(t, name+", and no Meta", hole(9), list(x), 0, api.ErrArg)
	}
	hold(t, "4000 nodes", wide(api.MaxSize), list(wide(api.MaxSize), deep(api.MaxDepth)), 0, wide(api.MaxSize))
	hold(t, "60 deep", deep(api.MaxDepth), list(wide(api.MaxSize), deep(api.MaxDepth)), 0, deep(api.MaxDepth))
}

func TestHowManyTermsTheMetasHave(t *testing.T) {
	for _, x := range []struct {
		n int
		e api.Errno
	}{{0, api.OK}, {1, api.OK}, {199, api.OK}, {200, api.OK}, {201, api.ErrArg}, {202, api.ErrArg}, {5000, api.ErrArg}} {
		_, e := meta.Fill(con(3), times(x.n, con(1)), 0)
		_, f := meta.Fill(hole(0), times(x.n, con(1)), 0)
		if e != x.e || x.n > 0 && f != x.e {
			t.Errorf("%d terms: errors %d and %d, not %d", x.n, e, f, x.e)
		}
	}
}

func TestHowManyEntriesThereAre(t *testing.T) {
	theta := list(con(2, vari(0)))
	for _, n := range []int{0, 1, 2, 500, 999, 1000} {
		hold(t, "without metas", con(1), theta, n, con(1))
		hold(t, "a Meta", hole(0), theta, n, con(2, vari(n)))
		hold(t, "below Lam", lam(hole(0)), theta, n, lam(con(2, vari(n+1))))
		hold(t, "below 57 Lams", lams(57, hole(0)), theta, n, lams(57, con(2, vari(n+57))))
	}
	for _, n := range []int{-1, -2, math.MinInt, 1001, 1002, 1 << 20, math.MaxInt} {
		fail(t, "without metas", con(1), theta, n, api.ErrArg)
		fail(t, "a Meta", hole(0), theta, n, api.ErrArg)
		fail(t, "below Lam", lam(hole(0)), theta, n, api.ErrArg)
		fail(t, "no Meta", hole(1), theta, n, api.ErrArg)
	}
}

// P4.2

// holdList holds what Ctx or All answers against what it should, or against an error with nothing beside it.
func holdList(t *testing.T, name string, got []api.Term, e api.Errno, want []api.Term, wantE api.Errno) {
	t.Helper()
	if e != wantE {
		t.Errorf("%s: error %d, not %d", name, e, wantE)
	} else if !slices.EqualFunc(got, want, equal) {
		t.Errorf("%s: %v, not %v", name, got, want)
	}
}

func TestCtx(t *testing.T) {
	theta := list(fam(2, vari(0)), fam(3, vari(0), vari(1)), sort)
	for _, x := range []struct {
		name string
		l    []api.Term
		n    int
		want []api.Term
		e    api.Errno
	}{
		{"one", list(hole(0)), 0, list(fam(2, vari(0))), api.OK},
		{"each next one with one more", list(hole(0), hole(0), hole(0)), 0, list(fam(2, vari(0)), fam(2, vari(1)), fam(2, vari(2))), api.OK},
		{"in order", list(hole(2), hole(1, con(1)), fam(9), lam(hole(0))), 4, list(sort, fam(3, con(1), vari(5)), fam(9), lam(fam(2, vari(8)))), api.OK},
		{"up to 1000", list(hole(0), hole(0)), 999, list(fam(2, vari(999)), fam(2, vari(1000))), api.OK},
		{"beyond 1000 on the way", list(hole(0), hole(0)), 1000, nil, api.ErrArg},
		{"beyond 1000 on the way, far", times(500, hole(0)), 501, nil, api.OK},
		{"beyond 1000 on the way, far, one more", times(501, hole(0)), 501, nil, api.ErrArg},
		{"beyond 1000 on the way, behind another error", list(hole(9), hole(0)), 1000, nil, api.ErrScope},
		{"beyond 1000 on the way, ahead of another error", list(hole(0), hole(9)), 1000, nil, api.ErrArg},
		{"beyond 1000", list(hole(0)), 1001, nil, api.ErrArg},
		{"below 0", list(hole(0), hole(0)), -1, nil, api.ErrArg},
		{"the greatest n", list(hole(0), hole(0)), math.MaxInt, nil, api.ErrArg},
		{"the least n", list(hole(0), hole(0)), math.MinInt, nil, api.ErrArg},
		{"the first one has an error", list(hole(3), hole(0), vari(-1)), 0, nil, api.ErrScope},
		{"the last one has an error", list(hole(0), hole(0), vari(-1)), 0, nil, api.ErrArg},
		{"what may not be is met when its turn comes", list(hole(0), hole(3), vari(-1)), 0, nil, api.ErrScope},
		{"what is not in it is met when its turn comes", list(hole(0), vari(-1), hole(3)), 0, nil, api.ErrArg},
	} {
		got, e := meta.Ctx(x.l, theta, x.n)
		if x.want == nil && x.e == api.OK {
			for i := range x.l {
				x.want = append(x.want, fam(2, vari(x.n+i)))
			}
		}
		holdList(t, x.name, got, e, x.want, x.e)
	}
}

func TestAll(t *testing.T) {
	theta := list(fam(2, vari(0)), fam(3, vari(0), vari(1)), sort)
	for _, x := range []struct {
		name string
		l    []api.Term
		n    []int
		want []api.Term
		e    api.Errno
	}{
		{"one", list(hole(0)), []int{4}, list(fam(2, vari(4))), api.OK},
		{"each with its own", list(hole(0), hole(0), hole(0)), []int{3, 0, 1000}, list(fam(2, vari(3)), fam(2, vari(0)), fam(2, vari(1000))), api.OK},
		{"in order", list(hole(2), hole(1, con(1)), fam(9), lam(hole(0))), []int{7, 4, 5, 4}, list(sort, fam(3, con(1), vari(4)), fam(9), lam(fam(2, vari(5)))), api.OK},
		{"n has fewer", list(hole(0), hole(0)), []int{1}, nil, api.ErrArg},
		{"n has none", list(hole(0)), nil, nil, api.ErrArg},
		{"n has more", list(hole(0)), []int{1, 2}, nil, api.ErrArg},
		{"l has none", nil, []int{1}, nil, api.ErrArg},
		{"n has fewer, ahead of another error", list(hole(9), hole(0)), []int{1}, nil, api.ErrArg},
		{"n has more, ahead of another error", list(hole(9)), []int{1, 1}, nil, api.ErrArg},
		{"an n below 0", list(hole(0), hole(0)), []int{1, -1}, nil, api.ErrArg},
		{"an n beyond 1000", list(hole(0), hole(0)), []int{1, 1001}, nil, api.ErrArg},
		{"an n beyond 1000, behind another error", list(hole(9), hole(0)), []int{1, 1001}, nil, api.ErrScope},
		{"an n beyond 1000, ahead of another error", list(hole(0), hole(9)), []int{1001, 1}, nil, api.ErrArg},
		{"the first one has an error", list(hole(3), hole(0), vari(-1)), []int{0, 0, 0}, nil, api.ErrScope},
		{"the last one has an error", list(hole(0), hole(0), vari(-1)), []int{0, 0, 0}, nil, api.ErrArg},
		{"what may not be is met when its turn comes", list(hole(0), hole(3), vari(-1)), []int{0, 0, 0}, nil, api.ErrScope},
	} {
		got, e := meta.All(x.l, theta, x.n)
		holdList(t, x.name, got, e, x.want, x.e)
	}
}

// Of no entry there is no Fill that could have an error.
func TestNoEntries(t *testing.T) {
	for _, theta := range [][]api.Term{nil, list(con(1)), list(vari(-1)), times(201, con(1))} {
		for _, n := range []int{0, 7, -1, 1001, math.MinInt, math.MaxInt} {
			got, e := meta.Ctx(nil, theta, n)
			holdList(t, "Ctx of nil", got, e, nil, api.OK)
			got, e = meta.Ctx(list(), theta, n)
			holdList(t, "Ctx of none", got, e, nil, api.OK)
		}
		got, e := meta.All(nil, theta, nil)
		holdList(t, "All of nil", got, e, nil, api.OK)
		got, e = meta.All(list(), theta, []int{})
		holdList(t, "All of none", got, e, nil, api.OK)
	}
}

func TestListsByWrongArguments(t *testing.T) {
	for name, x := range odd() {
		for at, l := range [][]api.Term{list(x), list(x, con(1)), list(con(1), x)} {
			got, e := meta.Ctx(l, list(con(1)), 0)
			holdList(t, name+", in Ctx", got, e, nil, api.ErrArg)
			got, e = meta.All(l, list(con(1)), make([]int, len(l)))
			holdList(t, name+", in All", got, e, nil, api.ErrArg)
			got, e = meta.Ctx(times(at+1, con(1)), l, 0)
			holdList(t, name+", in Ctx's theta", got, e, nil, api.ErrArg)
			got, e = meta.All(times(at+1, con(1)), l, make([]int, at+1))
			holdList(t, name+", in All's theta", got, e, nil, api.ErrArg)
		}
	}
	got, e := meta.Ctx(list(con(1)), times(mostTerms+1, con(1)), 0)
	holdList(t, "201 in Ctx's theta", got, e, nil, api.ErrArg)
	got, e = meta.All(list(con(1)), times(mostTerms+1, con(1)), []int{0})
	holdList(t, "201 in All's theta", got, e, nil, api.ErrArg)
	got, e = meta.All(times(50, hole(199)), times(mostTerms, con(1)), make([]int, 50))
	holdList(t, "200 in All's theta", got, e, times(50, con(1)), api.OK)
}

// Ctx and All are what Fill is of each.
func TestListsAreFilledOneByOne(t *testing.T) {
	theta := list(con(2, vari(0), vari(2)), lam(vari(1, vari(0))), vari(0))
	all := terms()
	for i := 0; i+5 <= len(all); i += 5 {
		l, n := all[i:i+5], []int{i % 4, 0, 7, 1, i % 9}
		var behind, each []api.Term
		var e, f api.Errno
		for j, x := range l {
			var t api.Term
			if t, e = meta.Fill(x, theta, 3+j); e != api.OK {
				behind = nil
				break
			}
			behind = append(behind, t)
		}
		for j, x := range l {
			var t api.Term
			if t, f = meta.Fill(x, theta, n[j]); f != api.OK {
				each = nil
				break
			}
			each = append(each, t)
		}
		got, gotE := meta.Ctx(l, theta, 3)
		holdList(t, "Ctx", got, gotE, behind, e)
		got, gotE = meta.All(l, theta, n)
		holdList(t, "All", got, gotE, each, f)
	}
}
