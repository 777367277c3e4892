package unify_test

import (
	"math"
	"slices"
	"testing"

	"amanuensis/api"
	"amanuensis/unify"
)

const (
	mostMetas   = 200
	mostEntries = 1000
)

var sort = api.Term{Kind: api.Sort}

func node(kind, head int, args ...api.Term) api.Term {
	return api.Term{Kind: kind, Head: head, Args: args}
}

func pi(a, b api.Term) api.Term                { return node(api.Pi, 0, a, b) }
func lam(a api.Term) api.Term                  { return node(api.Lam, 0, a) }
func fam(head int, args ...api.Term) api.Term  { return node(api.Fam, head, args...) }
func vari(head int, args ...api.Term) api.Term { return node(api.Var, head, args...) }
func con(head int, args ...api.Term) api.Term  { return node(api.Const, head, args...) }
func hole(head int, args ...api.Term) api.Term { return node(api.Meta, head, args...) }

func list(l ...api.Term) []api.Term { return l }

func times(n int, t api.Term) []api.Term { return slices.Repeat([]api.Term{t}, n) }

// varis are variables of these heads.
func varis(heads ...int) []api.Term {
	var l []api.Term
	for _, h := range heads {
		l = append(l, vari(h))
	}
	return l
}

// upTo are so many variables, the last one 0.
func upTo(n int) []api.Term {
	var l []api.Term
	for i := range n {
		l = append(l, vari(n-1-i))
	}
	return l
}

// lams is a term below so many Lams.
func lams(n int, t api.Term) api.Term {
	for range n {
		t = lam(t)
	}
	return t
}

// wide is so many nodes.
func wide(n int) api.Term { return con(0, times(n-1, con(1))...) }

func equal(a, b api.Term) bool {
	return a.Kind == b.Kind && a.Head == b.Head && slices.EqualFunc(a.Args, b.Args, equal)
}

// is is a meta that is something, non one that is nothing.
func is(t api.Term) api.Bind { return api.Bind{Is: true, T: t} }

var non api.Bind

func binds(l ...api.Bind) []api.Bind { return l }

func equalBind(a, b api.Bind) bool { return a.Is == b.Is && equal(a.T, b.T) }

func sizes(l ...int) []int { return l }

// ask is what Unify is asked.
type ask struct {
	a, c api.Term
	n    int
	size []int
}

func (a ask) unify() ([]api.Bind, api.Errno) { return unify.Unify(a.a, a.c, a.n, a.size) }

func hold(t *testing.T, name string, a ask, want ...api.Bind) {
	t.Helper()
	got, e := a.unify()
	if e != api.OK || !slices.EqualFunc(got, want, equalBind) {
		t.Errorf("%s: %v: %v, %v, not %v", name, a, got, e, want)
	}
}

func fail(t *testing.T, name string, a ask, want api.Errno) {
	t.Helper()
	got, e := a.unify()
	if e != want || len(got) > 0 {
		t.Errorf("%s: %v: %v, %v, not nothing and %v", name, a, got, e, want)
	}
}

// pair are two terms that are to be the same.
type pair struct {
	a, c api.Term
}

func pairs(l ...pair) []pair { return l }

func (a ask) turned() ask { return ask{a.c, a.a, a.n, a.size} }

// holdBoth holds what is answered, which of both terms ever is handed in first: with an error nothing else.
func holdBoth(t *testing.T, name string, a ask, e api.Errno, want ...api.Bind) {
	t.Helper()
	for name, a := range map[string]ask{name: a, name + ", turned": a.turned()} {
		if e == api.OK {
			hold(t, name, a, want...)
		} else {
			fail(t, name, a, e)
		}
	}
}

// all are Args, one behind the other, of two nodes that are the same.
func all(n int, size []int, l ...pair) ask {
	x := ask{a: con(0), c: con(0), n: n, size: size}
	for _, p := range l {
		x.a.Args = append(x.a.Args, p.a)
		x.c.Args = append(x.c.Args, p.c)
	}
	return x
}

// P8.1: one of both is a meta

func TestUnify(t *testing.T) {
	for _, x := range []struct {
		name string
		a    ask
		want []api.Bind
	}{
		{"the chapter's example", ask{con(1, hole(0), con(2)), con(1, con(3), hole(1)), 0, sizes(0, 0)}, binds(is(con(3)), is(con(2)))},
		{"the same, without metas", ask{con(1, lam(vari(0)), sort), con(1, lam(vari(0)), sort), 0, nil}, nil},
		{"the same, with metas beside", ask{con(1), con(1), 0, sizes(0, 3)}, binds(non, non)},
		{"a Const", ask{hole(0), con(1), 0, sizes(0)}, binds(is(con(1)))},
		{"a Sort", ask{hole(0), sort, 0, sizes(0)}, binds(is(sort))},
		{"a Pi", ask{hole(0), pi(fam(1), fam(2, vari(0))), 0, sizes(0)}, binds(is(pi(fam(1), fam(2, vari(0)))))},
		{"a Lam", ask{hole(0), lam(vari(0)), 0, sizes(0)}, binds(is(lam(vari(0))))},
		{"another meta", ask{hole(0), hole(1), 0, sizes(0, 0)}, binds(is(hole(1)), non)},
		{"another meta, the greater one first", ask{hole(1), hole(0), 0, sizes(0, 0)}, binds(non, is(hole(0)))},
		{"what has a meta", ask{hole(0), con(1, hole(1)), 0, sizes(0, 0)}, binds(is(con(1, hole(1))), non)},
		{"what has a meta that there is not", ask{hole(0), con(1, hole(5, sort)), 0, sizes(0)}, binds(is(con(1, hole(5, sort))))},
		{"what has a meta with other Args", ask{hole(0), con(1, hole(1)), 0, sizes(0, 3)}, binds(is(con(1, hole(1))), non)},
		{"the last one alone", ask{hole(2), con(1), 0, sizes(4, 5, 0)}, binds(non, non, is(con(1)))},
		{"the last one of most", ask{hole(mostMetas - 1), con(1), 0, make([]int, mostMetas)}, append(make([]api.Bind, mostMetas-1), is(con(1)))},
		{"Args in order", ask{hole(0, varis(1, 0)...), con(2, varis(0, 1)...), 2, sizes(2)}, binds(is(con(2, varis(0, 1)...)))},
		{"Args the other way", ask{hole(0, varis(0, 1)...), con(2, varis(0, 1)...), 2, sizes(2)}, binds(is(con(2, varis(1, 0)...)))},
		{"some entries alone", ask{hole(0, varis(2, 0)...), con(2, varis(0, 2)...), 3, sizes(2)}, binds(is(con(2, varis(0, 1)...)))},
		{"of the context around", ask{hole(0, vari(0)), vari(5), 1, sizes(1)}, binds(is(vari(5)))},
		{"of the context around, with fewer entries", ask{hole(0), vari(5), 1, sizes(0)}, binds(is(vari(4)))},
		{"just of the context around", ask{hole(0), vari(3), 3, sizes(0)}, binds(is(vari(0)))},
		{"most entries", ask{hole(0, vari(999)), con(1, vari(999), vari(1000)), mostEntries, sizes(1)}, binds(is(con(1, vari(0), vari(1))))},
		{"as many Args as entries", ask{hole(0, upTo(mostEntries)...), vari(999), mostEntries, sizes(mostEntries)}, binds(is(vari(999)))},
		{"the greatest variable", ask{hole(0), vari(math.MaxInt), 0, sizes(0)}, binds(is(vari(math.MaxInt)))},
	} {
		hold(t, x.name, x.a, x.want...)
		hold(t, x.name+", below a Const", all(x.a.n, x.a.size, pair{x.a.a, x.a.c}), x.want...)
		// Which one is a meta does not matter, but of two metas the first one is solved.
		if x.a.a.Kind != api.Meta || x.a.c.Kind != api.Meta {
			hold(t, x.name+", turned", x.a.turned(), x.want...)
		}
	}
}

// Below a node that binds there is an entry more.
func TestBelowNodesThatBind(t *testing.T) {
	for _, x := range []struct {
		name string
		a    ask
		want []api.Bind
	}{
		{"Lam", ask{lam(hole(0, vari(0))), lam(con(1, vari(0))), 0, sizes(1)}, binds(is(con(1, vari(0))))},
		{"Lam, of the context around", ask{lam(hole(0)), lam(vari(1)), 0, sizes(0)}, binds(is(vari(0)))},
		{"two Lams", ask{lams(2, hole(0, varis(0, 1)...)), lams(2, con(1, varis(0, 1, 2)...)), 0, sizes(2)}, binds(is(con(1, varis(1, 0, 2)...)))},
		{"Pi, the first one", ask{pi(hole(0), sort), pi(con(1, vari(0)), sort), 0, sizes(0)}, binds(is(con(1, vari(0))))},
		{"Pi, the second one", ask{pi(sort, hole(0, vari(0))), pi(sort, con(1, varis(0, 1)...)), 0, sizes(1)}, binds(is(con(1, varis(0, 1)...)))},
		{"Pi, both", ask{pi(hole(0, vari(0)), hole(1, varis(1, 0)...)), pi(vari(0), con(1, varis(0, 1)...)), 1, sizes(1, 2)}, binds(is(vari(0)), is(con(1, varis(0, 1)...)))},
		{"Const does not bind", ask{con(0, hole(0)), con(0, vari(0)), 0, sizes(0)}, binds(is(vari(0)))},
		{"Fam does not bind", ask{fam(0, hole(0)), fam(0, vari(0)), 0, sizes(0)}, binds(is(vari(0)))},
		{"Var does not bind", ask{vari(3, hole(0)), vari(3, vari(0)), 0, sizes(0)}, binds(is(vari(0)))},
		{"as many as most entries", ask{lam(hole(0, vari(0))), lam(vari(0)), mostEntries - 1, sizes(1)}, binds(is(vari(0)))},
		{"something that was told below", all(0, sizes(1), pair{lams(2, hole(0, vari(1))), lams(2, con(1, varis(1, 2)...))}, pair{lam(hole(0, vari(0))), lam(con(1, varis(0, 1)...))}), binds(is(con(1, varis(0, 1)...)))},
	} {
		holdBoth(t, x.name, x.a, api.OK, x.want...)
	}
	fail(t, "Lam, what is bound", ask{lam(hole(0)), lam(vari(0)), 0, sizes(0)}, api.ErrClash)
	fail(t, "Pi, what is bound", ask{pi(sort, hole(0)), pi(sort, vari(0)), 0, sizes(0)}, api.ErrClash)
	hold(t, "Pi, the first one is not below", ask{pi(hole(0), sort), pi(vari(0), sort), 0, sizes(0)}, is(vari(0)))
}

// P8.1: a node is reduced

func TestReduced(t *testing.T) {
	// one is what makes Meta 0 this one of its variable.
	one := func(what api.Term) pair { return pair{lam(hole(0, vari(0))), lam(what)} }
	for _, x := range []struct {
		name string
		a    ask
		want []api.Bind
	}{
		{"once", all(0, sizes(0), pair{hole(0), con(1)}, pair{hole(0), con(1)}), binds(is(con(1)))},
		{"both", all(0, sizes(0), pair{hole(0), con(1)}, pair{hole(0), hole(0)}), binds(is(con(1)))},
		{"under its Args", all(0, sizes(1), one(con(2, vari(0), vari(0))), pair{hole(0, con(3)), con(2, con(3), con(3))}), binds(is(con(2, vari(0), vari(0))))},
		{"with a meta in its Args", all(0, sizes(1, 0), one(con(2, vari(0), vari(0))), pair{hole(0, hole(1)), con(2, con(3), con(3))}), binds(is(con(2, vari(0), vari(0))), is(con(3)))},
		{"with nothing left to reduce", all(0, sizes(1), one(vari(0, con(1))), pair{hole(0, lam(con(3, vari(0)))), con(3, con(1))}), binds(is(vari(0, con(1))))},
		{"of the context around, in so many entries", all(0, sizes(0), pair{hole(0), vari(0)}, pair{lams(2, hole(0)), lams(2, vari(2))}), binds(is(vari(0)))},
		{"of the context around, ahead of Args", all(1, sizes(1), pair{hole(0, vari(0)), con(2, varis(0, 1)...)}, pair{lam(hole(0, con(3))), lam(con(2, con(3), vari(2)))}), binds(is(con(2, varis(0, 1)...)))},
		{"below n entries", all(3, sizes(0), pair{hole(0), vari(4)}, pair{lam(hole(0)), lam(vari(5))}), binds(is(vari(1)))},
		{"with another number of Args", all(1, sizes(1), pair{hole(0, vari(0)), con(2, vari(0))}, pair{hole(0), con(2, vari(1))}, pair{hole(0, con(7), con(8)), con(2, con(8))}), binds(is(con(2, vari(0))))},
		{"twice, one behind the other", all(0, sizes(0, 0), pair{hole(0), hole(1)}, pair{hole(1), con(4)}, pair{hole(0), con(4)}), binds(is(con(4)), is(con(4)))},
		{"three times, with Args", all(0, sizes(1, 2, 1), one(hole(1, vari(0), con(5))), pair{lams(2, hole(1, varis(1, 0)...)), lams(2, hole(2, vari(1)))}, pair{lam(hole(2, vari(0))), lam(con(6, vari(0)))}, pair{hole(0, con(9)), con(6, con(9))}),
			binds(is(con(6, vari(0))), is(con(6, vari(1))), is(con(6, vari(0))))},
		{"to a meta of the same Head", all(0, sizes(0, 0), pair{hole(0), hole(1)}, pair{hole(0), hole(1)}, pair{hole(1), hole(0)}), binds(is(hole(1)), non)},
		{"to a meta that becomes something", all(0, sizes(0, 0), pair{hole(0), hole(1)}, pair{con(4), hole(0)}), binds(is(con(4)), is(con(4)))},
		{"in Args", all(0, sizes(0, 0), pair{hole(0), con(1)}, pair{con(2, hole(0), hole(1)), con(2, hole(1), hole(0))}), binds(is(con(1)), is(con(1)))},
	} {
		hold(t, x.name, x.a, x.want...)
	}
	fail(t, "another one", all(0, sizes(0), pair{hole(0), con(1)}, pair{hole(0), con(2)}), api.ErrClash)
	fail(t, "another one of another one", all(0, sizes(0, 0), pair{hole(0), con(1)}, pair{con(2), hole(1)}, pair{hole(0), hole(1)}), api.ErrClash)
	fail(t, "another one of Args", all(0, sizes(1), one(con(2, vari(0))), pair{hole(0, con(3)), con(2, con(4))}), api.ErrClash)
	fail(t, "of another place", all(0, sizes(0), pair{hole(0), vari(0)}, pair{lams(2, hole(0)), lams(2, vari(0))}), api.ErrClash)
}

// Pairs of which one is reduced with an error: what Meta 0 is takes a Const, what Meta 1 is has its variable a hundred times.
var (
	hundred = con(0, times(100, vari(0))...)
	noType  = pair{hole(0, sort), con(1)}
	tooWide = pair{hole(1, wide(100)), con(1)}
	twoMade = []pair{{lam(hole(0, vari(0))), lam(vari(0, con(1)))}, {lam(hole(1, vari(0))), lam(hundred)}}
)

func TestErrorsOfApply(t *testing.T) {
	size := sizes(1, 1, 0, 1)
	for _, x := range []struct {
		name string
		l    []pair
		e    api.Errno
	}{
		{"no type", pairs(noType), api.ErrType},
		{"too great", pairs(tooWide), api.ErrLimit},
		{"a Pi", pairs(pair{hole(0, pi(sort, sort)), con(1)}), api.ErrType},
		{"a meta", pairs(pair{hole(0, hole(2)), con(1)}), api.ErrType},
		{"a meta that is something", pairs(pair{hole(2), lam(con(1))}, pair{hole(0, hole(2)), con(1)}), api.ErrType},
		{"behind how many Args there are", pairs(pair{con(1, noType.a), con(1, con(2), con(3))}), api.ErrClash},
		{"ahead of what is no pattern", pairs(pair{hole(2, con(1)), noType.a}), api.ErrType},
		{"behind a clash", pairs(pair{con(1), con(2)}, noType), api.ErrClash},
		{"ahead of a clash", pairs(noType, pair{con(1), con(2)}), api.ErrType},
		{"as c's", pairs(pair{hole(2), noType.a}), api.ErrType},
		{"in what a meta is to be", pairs(pair{hole(2), con(1, noType.a)}), api.ErrType},
		{"in what a meta is to be, below Lam", pairs(pair{hole(2), lam(noType.a)}), api.ErrType},
		{"in what a meta is to be, a meta's Arg", pairs(pair{hole(2), hole(3, noType.a)}), api.ErrType},
		{"in a meta's Args", pairs(pair{hole(2, noType.a), con(1)}), api.ErrScope},
	} {
		a := all(0, size, append(slices.Clone(twoMade), x.l...)...)
		holdBoth(t, x.name, a, x.e)
	}
	fail(t, "a's first", all(0, size, append(slices.Clone(twoMade), pair{noType.a, tooWide.a})...), api.ErrType)
	fail(t, "a's first, turned", all(0, size, append(slices.Clone(twoMade), pair{tooWide.a, noType.a})...), api.ErrLimit)
	again := append(pairs(pair{lam(hole(3, vari(0))), lam(hole(0, vari(0)))}), twoMade...)
	fail(t, "the second time", all(0, size, append(again, pair{hole(3, sort), con(1)})...), api.ErrType)
	hold(t, "both are there", all(0, size, append(slices.Clone(twoMade), pair{hole(0, lam(vari(0))), con(1)}, pair{hole(1, con(1)), con(0, times(100, con(1))...)})...), is(vari(0, con(1))), is(hundred), non, non)
}

// A meta takes as many Args as its context has entries, but Apply no more than 200.
func TestMetasOfManyArgs(t *testing.T) {
	for n, e := range map[int]api.Errno{199: api.OK, 200: api.OK, 201: api.ErrArg, 300: api.ErrArg, 1000: api.ErrArg} {
		args := upTo(n)
		hold(t, "once", ask{hole(0, args...), vari(n - 1), n, sizes(n)}, is(vari(n-1)))
		twice := all(n, sizes(n), pair{hole(0, args...), vari(n - 1)}, pair{hole(0, args...), vari(n - 1)})
		if e == api.OK {
			hold(t, "twice", twice, is(vari(n-1)))
		} else {
			fail(t, "twice", twice, e)
		}
	}
}

// P8.1: to solve

func TestNoSuchMeta(t *testing.T) {
	for name, a := range map[string]ask{
		"none":                              {hole(0), con(1), 0, nil},
		"just none":                         {hole(2), con(1), 0, sizes(0, 0)},
		"far beyond":                        {hole(math.MaxInt), con(1), 0, sizes(0)},
		"for another one":                   {hole(1), hole(0), 0, sizes(0)},
		"fewer Args":                        {hole(0), con(1), 1, sizes(1)},
		"more Args":                         {hole(0, vari(0)), con(1), 1, sizes(0)},
		"one Arg fewer":                     {hole(0, varis(2, 1)...), con(1), 3, sizes(3)},
		"one Arg more":                      {hole(0, varis(2, 1, 0)...), con(1), 3, sizes(2)},
		"Args of another one's":             {hole(0, vari(0)), con(1), 1, sizes(0, 1)},
		"a size of 1000":                    {hole(0), con(1), 0, sizes(1000)},
		"fewer Args, ahead of no pattern":   {hole(0, con(1)), con(1), 0, sizes(2)},
		"none, ahead of what it is not":     {lam(hole(3)), lam(vari(0)), 0, sizes(0)},
		"none, ahead of what is in itself":  {hole(3), con(1, hole(3)), 0, sizes(0)},
		"none, and another one for it":      {hole(3), hole(0), 0, sizes(0)},
		"fewer Args, and another one's":     {hole(0), hole(1), 0, sizes(1, 0)},
		"too many entries":                  {lam(hole(3)), lam(con(1)), mostEntries, sizes(0)},
		"itself, with other Args, that not": {con(1, hole(3), hole(4)), con(1, hole(3), con(1)), 0, nil},
	} {
		fail(t, name, a, api.ErrScope)
		if a.a.Kind != api.Meta || a.c.Kind != api.Meta {
			fail(t, name+", turned", a.turned(), api.ErrScope)
		}
	}
	fail(t, "ahead of what it is to be", all(0, sizes(1, 1, 0), append(slices.Clone(twoMade), pair{hole(5), con(1, noType.a)})...), api.ErrScope)
	fail(t, "ahead of its Args", all(0, sizes(1, 1, 0), append(slices.Clone(twoMade), pair{hole(2, noType.a), con(1)})...), api.ErrScope)
}

// A meta's Args are resolved, and are a pattern then, or are none.
func TestPatterns(t *testing.T) {
	for _, x := range []struct {
		name string
		a    ask
		want []api.Bind
		e    api.Errno
	}{
		{"a Const", ask{hole(0, con(1)), con(2), 0, sizes(1)}, nil, api.ErrOutside},
		{"a Const, the same", ask{hole(0, con(1)), con(1), 0, sizes(1)}, nil, api.ErrOutside},
		{"a Lam", ask{hole(0, lam(vari(0))), con(2), 1, sizes(1)}, nil, api.ErrOutside},
		{"a Sort", ask{hole(0, sort), con(2), 1, sizes(1)}, nil, api.ErrOutside},
		{"a Var with Args", ask{hole(0, vari(0, con(1))), con(2), 1, sizes(1)}, nil, api.ErrOutside},
		{"a Var twice", ask{hole(0, varis(1, 1)...), con(2), 2, sizes(2)}, nil, api.ErrOutside},
		{"a Var of the context around", ask{hole(0, vari(1)), con(2), 1, sizes(1)}, nil, api.ErrOutside},
		{"the last Var of the context", ask{hole(0, vari(1)), con(2), 2, sizes(1)}, binds(is(con(2))), api.OK},
		{"no entries", ask{hole(0, vari(0)), con(2), 0, sizes(1)}, nil, api.ErrOutside},
		{"no entries, below Lam", ask{lam(hole(0, vari(0))), lam(con(2)), 0, sizes(1)}, binds(is(con(2))), api.OK},
		{"beyond, below Lam", ask{lam(hole(0, vari(1))), lam(con(2)), 0, sizes(1)}, nil, api.ErrOutside},
		{"a meta that is nothing", ask{hole(0, hole(1)), con(2), 0, sizes(1, 0)}, nil, api.ErrOutside},
		{"itself", ask{hole(0, hole(0)), con(2), 0, sizes(1)}, nil, api.ErrOutside},
		{"a meta that is a Var", all(1, sizes(1, 1), pair{hole(1, vari(0)), vari(0)}, pair{hole(0, hole(1, vari(0))), con(2, vari(0))}), binds(is(con(2, vari(0))), is(vari(0))), api.OK},
		{"a meta that is a Var, by metas", all(1, sizes(1, 1, 1), pair{hole(2, vari(0)), hole(1, vari(0))}, pair{hole(1, vari(0)), vari(0)}, pair{hole(0, hole(2, vari(0))), con(2, vari(0))}), binds(is(con(2, vari(0))), is(vari(0)), is(vari(0))), api.OK},
		{"metas that are each another Var", all(2, sizes(2, 2), pair{hole(1, varis(1, 0)...), vari(0)}, pair{hole(0, hole(1, varis(0, 1)...), hole(1, varis(1, 0)...)), con(2, varis(0, 1)...)}), binds(is(con(2, varis(0, 1)...)), is(vari(0))), api.OK},
		{"metas that are one Var", all(2, sizes(2, 2), pair{hole(1, varis(1, 0)...), vari(0)}, pair{hole(0, hole(1, varis(1, 0)...), vari(0)), con(2)}), nil, api.ErrOutside},
		{"a meta that is a Const", all(1, sizes(1, 0), pair{hole(1), con(5)}, pair{hole(0, hole(1)), con(2)}), nil, api.ErrOutside},
		{"a Var below Lam, by a meta", all(1, sizes(1, 1), pair{hole(1, vari(0)), vari(0)}, pair{lam(hole(0, hole(1, vari(0)))), lam(con(2, vari(0)))}), binds(is(con(2, vari(0))), is(vari(0))), api.OK},
		{"no pattern, and a variable that is not there", ask{lam(hole(0, con(1))), lam(vari(0)), 0, sizes(1)}, nil, api.ErrOutside},
		{"no pattern, and too many entries", ask{lam(hole(0, con(1))), lam(vari(0)), mostEntries, sizes(1)}, nil, api.ErrOutside},
	} {
		holdBoth(t, x.name, x.a, x.e, x.want...)
	}
}

// What a meta is to be is resolved, and has not the meta itself then.
func TestAMetaWithinItself(t *testing.T) {
	for name, a := range map[string]ask{
		"the chapter's example":      {hole(0), con(1, hole(0)), 0, sizes(0)},
		"deep":                       {hole(0), lam(con(1, con(2), con(3, hole(0)))), 0, sizes(0)},
		"in a meta's Args":           {hole(0), con(1, hole(1, hole(0))), 0, sizes(0, 1)},
		"by another one":             all(0, sizes(0, 0), pair{hole(1), con(5, hole(0))}, pair{hole(0), hole(1)}),
		"by another one, below":      all(0, sizes(0, 0), pair{hole(1), con(5, hole(0))}, pair{hole(0), con(3, hole(1))}),
		"by another one, first":      all(0, sizes(0, 0), pair{hole(0), con(5, hole(1))}, pair{hole(1), con(5, hole(0))}),
		"with other Args":            {hole(0, vari(0)), con(1, hole(0)), 1, sizes(1)},
		"and too many entries":       {lam(hole(0, vari(0))), lam(con(1, hole(0, vari(0)))), mostEntries, sizes(1)},
		"and a variable not there":   {lam(hole(0)), lam(con(1, vari(0), hole(0))), 0, sizes(0)},
		"in another meta's Args":     {hole(0), hole(1, hole(0)), 0, sizes(0, 1)},
		"in another meta's, by Args": all(0, sizes(0, 1, 0), pair{hole(2), con(4, hole(0))}, pair{hole(0), hole(1, hole(2))}),
	} {
		holdBoth(t, name, a, api.ErrOutside)
	}
	hold(t, "what was it ahead", all(0, sizes(1, 1), pair{lam(hole(1, vari(0))), lam(con(5))}, pair{hole(0, hole(1, con(3))), hole(0, con(5))}), non, is(con(5)))
	hold(t, "what another one drops", all(0, sizes(0, 1), pair{lam(hole(1, vari(0))), lam(con(5))}, pair{hole(0), con(3, hole(1, hole(0)))}), is(con(3, con(5))), is(con(5)))
}

// What is told of a meta is what invert tells, or why it does not.
func TestWhatInvertTells(t *testing.T) {
	for _, x := range []struct {
		name string
		a    ask
		want []api.Bind
		e    api.Errno
	}{
		{"no such variable", ask{hole(0), vari(0), 1, sizes(0)}, nil, api.ErrClash},
		{"no such variable, deep", ask{hole(0, vari(1)), con(1, vari(1), lam(con(2, varis(0, 1)...))), 2, sizes(1)}, nil, api.ErrClash},
		{"no such variable, with a meta", ask{hole(0), con(1, vari(0), hole(1)), 1, sizes(0, 0)}, nil, api.ErrOutside},
		{"no such variable, with a meta that there is not", ask{hole(0), con(1, vari(0), hole(7)), 1, sizes(0)}, nil, api.ErrOutside},
		{"no such variable, in a meta's Args", ask{hole(0), con(1, hole(1, vari(0))), 1, sizes(0, 1)}, nil, api.ErrOutside},
		{"no such variable, with a meta that is something", all(1, sizes(0, 0), pair{hole(1), con(5)}, pair{hole(0), con(1, vari(0), hole(1))}), nil, api.ErrClash},
		{"no such variable, by a meta that is one", all(1, sizes(0, 1), pair{hole(1, vari(0)), vari(0)}, pair{hole(0), con(1, hole(1, vari(0)))}), nil, api.ErrClash},
		{"no such variable, by a meta that is another one", all(1, sizes(0, 0, 0), pair{hole(1), hole(2)}, pair{hole(0), con(1, vari(0), hole(1))}), nil, api.ErrOutside},
		{"a variable that is dropped", all(1, sizes(0, 1), pair{hole(1, vari(0)), con(5)}, pair{hole(0), con(1, hole(1, vari(0)))}), binds(is(con(1, con(5))), is(con(5))), api.OK},
		{"a variable that is dropped in Args", all(1, sizes(0, 1, 1), pair{hole(1, vari(0)), con(5)}, pair{hole(0), con(1, hole(2, hole(1, vari(0))))}), binds(is(con(1, hole(2, con(5)))), is(con(5)), non), api.OK},
		{"below a Lam of its own", all(1, sizes(0, 2), pair{lam(hole(1, varis(1, 0)...)), lam(con(5, vari(0)))}, pair{hole(0), lam(hole(1, varis(1, 0)...))}), binds(is(lam(con(5, vari(0)))), is(con(5, vari(0)))), api.OK},
		{"too many entries", ask{lam(hole(0, vari(0))), lam(vari(0)), mostEntries, sizes(1)}, nil, api.ErrLimit},
		{"too many entries, with metas", ask{lam(hole(0, vari(0))), lam(con(1, hole(1))), mostEntries, sizes(1, 0)}, nil, api.ErrLimit},
		{"too many entries, no such variable", ask{lam(hole(0)), lam(vari(0)), mostEntries, sizes(0)}, nil, api.ErrLimit},
		{"one entry too many", ask{lams(2, hole(0)), lams(2, con(1)), mostEntries - 1, sizes(0)}, nil, api.ErrLimit},
		{"just as many entries", ask{lams(2, hole(0)), lams(2, con(1)), mostEntries - 2, sizes(0)}, binds(is(con(1))), api.OK},
		{"too many entries, nothing to solve", ask{lams(2, con(1)), lams(2, con(1)), mostEntries, sizes(0)}, binds(non), api.OK},
		{"too many entries, of what is something", all(mostEntries, sizes(0), pair{hole(0), con(1)}, pair{lam(hole(0)), lam(con(1))}), binds(is(con(1))), api.OK},
	} {
		holdBoth(t, x.name, x.a, x.e, x.want...)
	}
}

// What a meta is to be may be too great, as resolved.
func TestWhatIsTooGreatToInvert(t *testing.T) {
	made := func(what, t api.Term) ask { return all(0, sizes(0, 0), pair{hole(1), what}, pair{hole(0), t}) }
	full := func(n int) api.Term { return con(7, times(n, wide(1000))...) }
	hold(t, "4000 nodes", made(wide(1000), con(7, append(times(3, hole(1)), times(999, con(1))...)...)), is(con(7, append(times(3, wide(1000)), times(999, con(1))...)...)), is(wide(1000)))
	fail(t, "4001 nodes", made(wide(1000), con(7, append(times(3, hole(1)), times(1000, con(1))...)...)), api.ErrLimit)
	fail(t, "4001 nodes, of metas", made(wide(1000), con(7, times(4, hole(1))...)), api.ErrLimit)
	hold(t, "3001 nodes", made(wide(1000), con(7, times(3, hole(1))...)), is(full(3)), is(wide(1000)))
	hold(t, "60 deep", made(lams(30, con(1)), lams(29, hole(1))), is(lams(59, con(1))), is(lams(30, con(1))))
	fail(t, "61 deep", made(lams(30, con(1)), lams(30, hole(1))), api.ErrLimit)
	fail(t, "61 deep, and no such variable", all(1, sizes(0, 0), pair{hole(1), lams(30, con(1))}, pair{hole(0), lams(30, con(2, vari(30), hole(1)))}), api.ErrLimit)
	fail(t, "61 deep, and no pattern", all(0, sizes(1, 0), pair{hole(1), lams(30, con(1))}, pair{hole(0, con(1)), lams(30, hole(1))}), api.ErrOutside)
	fail(t, "61 deep, and in itself", all(0, sizes(0, 0), pair{hole(1), lams(30, con(1))}, pair{hole(0), con(1, lams(30, hole(1)), hole(0))}), api.ErrOutside)
}

// What a meta is to be is resolved ahead of the meta's Args.
func TestWhichIsResolvedFirst(t *testing.T) {
	size := sizes(1, 1, 1)
	for name, x := range map[string]struct {
		p pair
		e api.Errno
	}{
		"no type in what it is to be, too great in its Args": {pair{hole(2, tooWide.a), con(1, noType.a)}, api.ErrType},
		"too great in what it is to be, no type in its Args": {pair{hole(2, noType.a), con(1, tooWide.a)}, api.ErrLimit},
		"no type in its Args":                                {pair{hole(2, noType.a), con(1)}, api.ErrType},
		"no type in its Args, below":                         {pair{hole(2, con(1, lam(noType.a))), con(1)}, api.ErrType},
		"no type in what it is to be, no pattern":            {pair{hole(2, con(1)), con(1, noType.a)}, api.ErrType},
		"no type in what it is to be, behind what is not":    {pair{hole(2, vari(0)), con(1, vari(0), tooWide.a, noType.a)}, api.ErrLimit},
	} {
		a := all(0, size, append(slices.Clone(twoMade), x.p)...)
		holdBoth(t, name, a, x.e)
	}
}

// P8.1: both are metas

func TestBothOneMeta(t *testing.T) {
	five := pair{hole(1), con(5)}
	for _, x := range []struct {
		name string
		a    ask
		same bool
		want []api.Bind
	}{
		{"without Args", ask{hole(0), hole(0), 0, sizes(0)}, true, binds(non)},
		{"with Args", ask{hole(0, varis(1, 0)...), hole(0, varis(1, 0)...), 2, sizes(2)}, true, binds(non)},
		{"with Args the other way", ask{hole(0, varis(1, 0)...), hole(0, varis(0, 1)...), 2, sizes(2)}, false, nil},
		{"no pattern", ask{hole(0, con(1)), hole(0, con(1)), 0, sizes(1)}, true, binds(non)},
		{"no pattern, another one", ask{hole(0, con(1)), hole(0, con(2)), 0, sizes(1)}, false, nil},
		{"one that there is not", ask{hole(3), hole(3), 0, nil}, true, nil},
		{"one that there is not, with other Args", ask{hole(3, con(1)), hole(3), 0, nil}, false, nil},
		{"not as many Args as entries", ask{hole(0), hole(0), 0, sizes(3)}, true, binds(non)},
		{"how many Args there are", ask{hole(0, vari(0)), hole(0), 1, sizes(1)}, false, nil},
		{"another one's Args, open", ask{hole(0, hole(1)), hole(0, con(5)), 0, sizes(1, 0)}, false, nil},
		{"both open", ask{hole(0, hole(1)), hole(0, hole(1)), 0, sizes(1, 0)}, true, binds(non, non)},
		{"the same, resolved", all(0, sizes(1, 0), five, pair{hole(0, hole(1)), hole(0, con(5))}), true, binds(non, is(con(5)))},
		{"the same, resolved deep", all(0, sizes(1, 0), five, pair{hole(0, lam(con(3, hole(1)))), hole(0, lam(con(3, con(5))))}), true, binds(non, is(con(5)))},
		{"not the same, resolved", all(0, sizes(1, 0), five, pair{hole(0, hole(1)), hole(0, con(6))}), false, nil},
		{"by another one", all(0, sizes(1, 0), pair{hole(1), hole(0, con(3))}, pair{hole(0, con(3)), hole(1)}), true, binds(non, is(hole(0, con(3))))},
		{"by another one, not the same", all(0, sizes(1, 0), pair{hole(1), hole(0, con(3))}, pair{hole(0, con(4)), hole(1)}), false, nil},
		{"what is bound, in Args", all(0, sizes(1, 1), pair{lam(hole(1, vari(0))), lam(con(5, varis(0, 1)...))}, pair{hole(0, lam(hole(1, vari(0)))), hole(0, lam(con(5, varis(0, 1)...)))}), true, binds(non, is(con(5, varis(0, 1)...)))},
	} {
		e := api.ErrOutside
		if x.same {
			e = api.OK
		}
		holdBoth(t, x.name, x.a, e, x.want...)
	}
	size := sizes(1, 1, 1)
	for name, x := range map[string]struct {
		p pair
		e api.Errno
	}{
		"no type in a's, too great in c's": {pair{hole(2, noType.a), hole(2, tooWide.a)}, api.ErrType},
		"too great in a's, no type in c's": {pair{hole(2, tooWide.a), hole(2, noType.a)}, api.ErrLimit},
		"no type in a's":                   {pair{hole(2, noType.a), hole(2, con(1))}, api.ErrType},
		"no type in c's":                   {pair{hole(2, con(1)), hole(2, noType.a)}, api.ErrType},
		"no type in both":                  {pair{hole(2, noType.a), hole(2, noType.a)}, api.ErrType},
		"no type, and not as many":         {pair{hole(2), hole(2, noType.a)}, api.ErrType},
	} {
		fail(t, name, all(0, size, append(slices.Clone(twoMade), x.p)...), x.e)
	}
}

// Where a's is outside of patterns c's is solved for it instead.
func TestAnotherOneInstead(t *testing.T) {
	for _, x := range []struct {
		name string
		a    ask
		want []api.Bind
	}{
		{"a's is solved", ask{hole(0, vari(0)), hole(1, vari(0)), 1, sizes(1, 1)}, binds(is(hole(1, vari(0))), non)},
		{"no pattern", ask{hole(0, con(1)), hole(1), 0, sizes(1, 0)}, binds(non, is(hole(0, con(1))))},
		{"no pattern, with entries", ask{hole(0, con(1)), hole(1, varis(0, 1)...), 2, sizes(1, 2)}, binds(non, is(hole(0, con(1))))},
		{"an entry that it has not", ask{hole(0), hole(1, vari(0)), 1, sizes(0, 1)}, binds(non, is(hole(0)))},
		{"an entry that it has not, of two", ask{hole(0, vari(1)), hole(1, varis(0, 1)...), 2, sizes(1, 2)}, binds(non, is(hole(0, vari(0))))},
		{"an entry twice", ask{hole(0, varis(0, 0)...), hole(1, vari(0)), 1, sizes(2, 1)}, binds(non, is(hole(0, varis(0, 0)...)))},
		{"an entry by a meta", ask{hole(0), hole(1, vari(0)), 1, sizes(0, 1)}, binds(non, is(hole(0)))},
		{"a's Args are resolved", all(1, sizes(1, 0, 1), pair{hole(2, vari(0)), con(5)}, pair{hole(0, hole(2, vari(0))), hole(1)}), binds(non, is(hole(0, con(5))), is(con(5)))},
		{"what a's is then", all(0, sizes(1, 0), pair{hole(0, con(1)), hole(1)}, pair{lam(hole(0, vari(0))), lam(con(2, vari(0)))}), binds(is(con(2, vari(0))), is(con(2, con(1))))},
	} {
		hold(t, x.name, x.a, x.want...)
	}
	for _, x := range []struct {
		name string
		a    ask
		e    api.Errno
	}{
		{"neither is a pattern", ask{hole(0, con(1)), hole(1, con(1)), 0, sizes(1, 1)}, api.ErrOutside},
		{"each has an entry more", ask{hole(0, varis(0, 1)...), hole(1, varis(1, 2)...), 3, sizes(2, 2)}, api.ErrOutside},
		{"each is in the other's Args", ask{hole(0, hole(1, vari(0))), hole(1, hole(0, vari(0))), 1, sizes(1, 1)}, api.ErrOutside},
		{"there is no other one", ask{hole(0, con(1)), hole(1), 0, sizes(1)}, api.ErrScope},
		{"the other one has other Args", ask{hole(0, con(1)), hole(1), 0, sizes(1, 1)}, api.ErrScope},
		{"too many entries", ask{lam(hole(0, con(1))), lam(hole(1)), mostEntries, sizes(1, 0)}, api.ErrLimit},
		{"too many entries for a's", ask{lam(hole(0)), lam(hole(1)), mostEntries, sizes(0, 0)}, api.ErrLimit},
		{"there is no first one", ask{hole(2), hole(0), 0, sizes(0)}, api.ErrScope},
		{"c's is no meta", ask{hole(0, con(1)), con(1, hole(1)), 0, sizes(1, 0)}, api.ErrOutside},
		{"a's is no meta", ask{con(1, hole(1)), hole(0, con(1)), 0, sizes(1, 0)}, api.ErrOutside},
	} {
		fail(t, x.name, x.a, x.e)
	}
}

// P8.1: none is a meta

func TestClashes(t *testing.T) {
	kinds := list(sort, pi(sort, sort), fam(1), lam(sort), vari(1), con(1), fam(1, sort), vari(1, sort), con(1, sort), fam(2), vari(2), con(2), con(1, sort, sort), con(2, sort), con(0), vari(0), fam(0), lam(con(1)), pi(sort, con(1)), pi(con(1), sort))
	for i, a := range kinds {
		for j, c := range kinds {
			for name, x := range map[string]ask{
				"at once":                {a, c, 1, sizes(0)},
				"below a Const":          {con(3, a), con(3, c), 1, sizes(0)},
				"below a Var":            {vari(3, con(1), a), vari(3, con(1), c), 1, sizes(0)},
				"below a Fam":            {fam(3, con(1), a, sort), fam(3, con(1), c, sort), 1, sizes(0)},
				"below Lam":              {lam(a), lam(c), 1, sizes(0)},
				"the first one of Pi":    {pi(a, sort), pi(c, sort), 1, sizes(0)},
				"the second one of Pi":   {pi(sort, a), pi(sort, c), 1, sizes(0)},
				"of a meta":              all(1, sizes(0), pair{hole(0), con(8)}, pair{a, c}),
				"of what a meta is":      all(1, sizes(1), pair{hole(0, vari(0)), a}, pair{hole(0, vari(0)), c}),
				"of what another one is": all(1, sizes(1), pair{hole(0, vari(0)), c}, pair{a, hole(0, vari(0))}),
			} {
				got, e := x.unify()
				if same := i == j; same && e != api.OK || !same && e != api.ErrClash || !same && len(got) > 0 {
					t.Errorf("%s: %v and %v: %v, %v", name, a, c, got, e)
				}
			}
		}
	}
}

// The first error of Args, in order, but that what is outside of patterns lets the others be gone through.
func TestWhatIsToldFirst(t *testing.T) {
	// Metas 0 and 1 are something; 2 has one Arg, 3 none.
	size := sizes(1, 1, 1, 0)
	fine := pair{con(4), con(4)}
	out := pair{hole(2, con(1)), con(1)}
	clash := pair{con(1), con(2)}
	scope := pair{hole(9), con(1)}
	deep := func(l ...pair) pair { x := all(0, nil, l...); return pair{lam(x.a), lam(x.c)} }
	for _, x := range []struct {
		name string
		l    []pair
		e    api.Errno
	}{
		{"outside", pairs(out), api.ErrOutside},
		{"outside, in the end", pairs(fine, out), api.ErrOutside},
		{"outside, at first", pairs(out, fine), api.ErrOutside},
		{"outside twice", pairs(out, out), api.ErrOutside},
		{"outside and clash", pairs(out, clash), api.ErrClash},
		{"clash and outside", pairs(clash, out), api.ErrClash},
		{"outside, fine and clash", pairs(out, fine, clash), api.ErrClash},
		{"outside and scope", pairs(out, scope), api.ErrScope},
		{"scope and outside", pairs(scope, out), api.ErrScope},
		{"outside and type", pairs(out, noType), api.ErrType},
		{"outside and limit", pairs(out, tooWide), api.ErrLimit},
		{"clash and scope", pairs(clash, scope), api.ErrClash},
		{"scope and clash", pairs(scope, clash), api.ErrScope},
		{"outside, clash and scope", pairs(out, clash, scope), api.ErrClash},
		{"outside, scope and clash", pairs(out, scope, clash), api.ErrScope},
		{"type and limit", pairs(noType, tooWide), api.ErrType},
		{"limit and type", pairs(tooWide, noType), api.ErrLimit},
		{"clash and type", pairs(clash, noType), api.ErrClash},
		{"outside deep", pairs(deep(out), fine), api.ErrOutside},
		{"outside deep, in the end", pairs(fine, deep(fine, out)), api.ErrOutside},
		{"outside deep, and a clash behind", pairs(deep(deep(out), fine), clash), api.ErrClash},
		{"outside deep, and a clash deep", pairs(deep(out), deep(fine, clash)), api.ErrClash},
		{"outside, and a clash deep", pairs(out, deep(deep(clash))), api.ErrClash},
		{"a clash deep, and scope", pairs(deep(out, clash), scope), api.ErrClash},
		{"outside, and what a meta is behind", pairs(out, pair{hole(3), con(1)}, pair{hole(3), con(2)}), api.ErrClash},
		{"outside, and what a meta is, the same", pairs(out, pair{hole(3), con(1)}, pair{hole(3), con(1)}), api.ErrOutside},
		{"one meta, outside, and a clash", pairs(pair{hole(2, con(1)), hole(2, con(2))}, clash), api.ErrClash},
		{"a meta within itself, and a clash", pairs(pair{hole(3), con(1, hole(3))}, clash), api.ErrClash},
		{"what is a pattern later on", pairs(out, pair{lam(hole(2, vari(0))), lam(vari(0))}), api.ErrOutside},
		{"what is a pattern first", pairs(pair{lam(hole(2, vari(0))), lam(vari(0))}, out), api.OK},
	} {
		a := all(0, size, append(slices.Clone(twoMade), x.l...)...)
		for name, a := range map[string]ask{x.name: a, x.name + ", turned": a.turned()} {
			if got, e := a.unify(); e != x.e || e != api.OK && len(got) > 0 {
				t.Errorf("%s: %v, %v, not %v", name, got, e, x.e)
			}
		}
	}
	for name, a := range map[string]ask{
		"of a Pi":  {pi(out.a, clash.a), pi(out.c, clash.c), 0, size},
		"of a Fam": {fam(1, out.a, clash.a), fam(1, out.c, clash.c), 0, size},
		"of a Var": {vari(1, out.a, clash.a), vari(1, out.c, clash.c), 0, size},
	} {
		fail(t, name, a, api.ErrClash)
	}
}

// P8.1: with OK all that are something are resolved

func TestResolvedInTheEnd(t *testing.T) {
	for _, x := range []struct {
		name string
		a    ask
		want []api.Bind
	}{
		{"what is told later on", all(0, sizes(0, 0), pair{hole(0), con(1, hole(1))}, pair{hole(1), con(2)}), binds(is(con(1, con(2))), is(con(2)))},
		{"what is told later on, of a later one", all(0, sizes(0, 0), pair{hole(1), con(1, hole(0))}, pair{hole(0), con(2)}), binds(is(con(2)), is(con(1, con(2))))},
		{"by three", all(0, sizes(0, 0, 0), pair{hole(0), con(1, hole(1), hole(2))}, pair{hole(1), con(2, hole(2))}, pair{hole(2), con(3)}), binds(is(con(1, con(2, con(3)), con(3))), is(con(2, con(3))), is(con(3)))},
		{"in its own entries", all(2, sizes(1, 1), pair{hole(0, vari(1)), con(1, hole(1, vari(1)))}, pair{lam(hole(1, vari(0))), lam(con(2, varis(0, 3, 4)...))}), binds(is(con(1, con(2, varis(0, 1, 2)...))), is(con(2, varis(0, 1, 2)...)))},
		{"below Lam", all(0, sizes(0, 1), pair{hole(0), lam(hole(1, vari(0)))}, pair{lam(hole(1, vari(0))), lam(con(2, varis(0, 1)...))}), binds(is(lam(con(2, varis(0, 1)...))), is(con(2, varis(0, 1)...)))},
		{"below a Pi", all(0, sizes(0, 0), pair{hole(0), pi(hole(1), hole(1))}, pair{hole(1), vari(0)}), binds(is(pi(vari(0), vari(1))), is(vari(0)))},
		{"in a meta's Args", all(0, sizes(0, 0, 1), pair{hole(0), hole(2, hole(1))}, pair{hole(1), con(3)}), binds(is(hole(2, con(3))), is(con(3)), non)},
		{"of the context around, by how many entries there are", all(3, sizes(1, 0), pair{hole(0, vari(2)), con(1, hole(1), vari(3))}, pair{hole(1), vari(4)}), binds(is(con(1, vari(2), vari(1))), is(vari(1)))},
	} {
		holdBoth(t, x.name, x.a, api.OK, x.want...)
	}
}

// In the end, too, the first error is told, in the order of the metas.
func TestErrorsInTheEnd(t *testing.T) {
	size := sizes(0, 0, 1, 1)
	type0, limit0 := pair{hole(0), con(1, hole(2, sort))}, pair{hole(0), con(1, hole(3, wide(100)))}
	type1, limit1 := pair{hole(1), con(1, hole(2, sort))}, pair{hole(1), con(1, hole(3, wide(100)))}
	made := pairs(pair{lam(hole(2, vari(0))), lam(vari(0, con(1)))}, pair{lam(hole(3, vari(0))), lam(hundred)})
	for _, x := range []struct {
		name string
		l    []pair
		e    api.Errno
	}{
		{"no type", pairs(type0), api.ErrType},
		{"no type in the second one", pairs(type1), api.ErrType},
		{"too great", pairs(limit0), api.ErrLimit},
		{"no type, too great", pairs(type0, limit1), api.ErrType},
		{"too great, no type", pairs(limit0, type1), api.ErrLimit},
		{"no type, too great, the second one told first", pairs(limit1, type0), api.ErrType},
		{"too great, no type, the second one told first", pairs(type1, limit0), api.ErrLimit},
		{"no type, below Lam", pairs(pair{hole(0), lam(con(1, hole(2, sort)))}), api.ErrType},
		{"no type, in a meta's Arg", pairs(pair{hole(0), hole(3, hole(2, sort))}), api.ErrType},
		{"no type, and outside of patterns", pairs(type0, pair{hole(1), con(1, hole(1))}), api.ErrOutside},
		{"no type, and a clash", pairs(type0, pair{con(1), con(2)}), api.ErrClash},
	} {
		a := all(0, size, append(slices.Clone(x.l), made...)...)
		holdBoth(t, x.name, a, x.e)
	}
	args := upTo(300)
	fail(t, "more Args than Apply takes", all(300, sizes(300, 300), pair{hole(0, args...), con(1, hole(1, args...))}, pair{hole(1, args...), con(5)}), api.ErrArg)
}

// What is told in the end may be greater than a term may be.
func TestWhatIsToldMayBeGreat(t *testing.T) {
	hold(t, "80 deep", all(0, sizes(0, 0), pair{hole(0), lams(40, hole(1))}, pair{hole(1), lams(40, con(1))}), is(lams(80, con(1))), is(lams(40, con(1))))
	hold(t, "10005 nodes", all(0, sizes(0, 0), pair{hole(0), con(3, times(4, hole(1))...)}, pair{hole(1), wide(2501)}), is(con(3, times(4, wide(2501))...)), is(wide(2501)))
}

// P8.2

func TestFull(t *testing.T) {
	two := binds(is(con(1)), non)
	for _, x := range []struct {
		name string
		b    []api.Bind
		size []int
		want []api.Term
	}{
		{"none", nil, nil, nil},
		{"none, of sizes", binds(), sizes(1, 2), nil},
		{"something", binds(is(con(1, vari(0)))), sizes(1), list(con(1, vari(0)))},
		{"nothing", binds(non), sizes(0), list(hole(0))},
		{"nothing, of two entries", binds(non), sizes(2), list(hole(0, varis(1, 0)...))},
		{"each by its own size", binds(non, non, non), sizes(1, 0, 3), list(hole(0, vari(0)), hole(1), hole(2, varis(2, 1, 0)...))},
		{"both", two, sizes(0, 2), list(con(1), hole(1, varis(1, 0)...))},
		{"both, the other way", binds(non, is(con(1))), sizes(2, 0), list(hole(0, varis(1, 0)...), con(1))},
		{"no sizes", two, nil, list(con(1), hole(1))},
		{"fewer sizes", append(two, non, is(sort)), sizes(0, 1), list(con(1), hole(1, vari(0)), hole(2), sort)},
		{"more sizes", two, sizes(3, 1, 4, 5), list(con(1), hole(1, vari(0)))},
		{"a size below 0", binds(non, non), sizes(-1, math.MinInt), list(hole(0), hole(1))},
		{"a size of 200", binds(non), sizes(200), list(hole(0, upTo(200)...))},
		{"a size of 201", binds(non), sizes(201), list(hole(0, upTo(200)...))},
		{"a great size", binds(non, non), sizes(1000, math.MaxInt), list(hole(0, upTo(200)...), hole(1, upTo(200)...))},
		{"what may not be", binds(is(con(-1, node(9, 3))), is(lams(80, con(1)))), nil, list(con(-1, node(9, 3)), lams(80, con(1)))},
		{"nothing, though a term stands there", binds(api.Bind{T: con(2)}), sizes(1), list(hole(0, vari(0)))},
	} {
		if got := unify.Full(x.b, x.size); !slices.EqualFunc(got, x.want, equal) {
			t.Errorf("%s: %v, not %v", x.name, got, x.want)
		}
	}
	many := slices.Repeat(binds(is(con(3)), non), 1000)
	got := unify.Full(many, nil)
	if len(got) != 2000 || !equal(got[1998], con(3)) || !equal(got[1999], hole(1999)) {
		t.Errorf("of two thousand: %d, %v", len(got), got[len(got)-1])
	}
}
