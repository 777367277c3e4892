package match_test

import (
	"math"
	"slices"
	"testing"

	"amanuensis/api"
	"amanuensis/match"
)

const (
	mostMetas   = 200
	mostEntries = 1000
)

var sort = api.Term{Kind: api.Sort}

func node(kind, head int, args ...api.Term) api.Term {
	return api.Term{Kind: kind, Head: head, Args: args}
}

func pi(a, b api.Term) api.Term                { return node(api.Pi, 0, a, b) }
func lam(a api.Term) api.Term                  { return node(api.Lam, 0, a) }
func fam(head int, args ...api.Term) api.Term  { return node(api.Fam, head, args...) }
func vari(head int, args ...api.Term) api.Term { return node(api.Var, head, args...) }
func con(head int, args ...api.Term) api.Term  { return node(api.Const, head, args...) }
func hole(head int, args ...api.Term) api.Term { return node(api.Meta, head, args...) }

func list(l ...api.Term) []api.Term { return l }

func times(n int, t api.Term) []api.Term { return slices.Repeat([]api.Term{t}, n) }

// varis are variables of these heads.
func varis(heads ...int) []api.Term {
	var l []api.Term
	for _, h := range heads {
		l = append(l, vari(h))
	}
	return l
}

// lams is a term below so many Lams.
func lams(n int, t api.Term) api.Term {
	for range n {
		t = lam(t)
	}
	return t
}

// wide is so many nodes.
func wide(n int) api.Term { return con(0, times(n-1, con(1))...) }

func equal(a, b api.Term) bool {
	return a.Kind == b.Kind && a.Head == b.Head && slices.EqualFunc(a.Args, b.Args, equal)
}

// is is a meta that is something, non one that is nothing yet.
func is(t api.Term) api.Bind { return api.Bind{Is: true, T: t} }

var non api.Bind

func binds(l ...api.Bind) []api.Bind { return l }

func equalBind(a, b api.Bind) bool { return a.Is == b.Is && equal(a.T, b.T) }

// ask is what Match is asked; where params has none, no meta of b stands for a variable alone.
type ask struct {
	p, t          api.Term
	n             int
	b             []api.Bind
	params, rigid []bool
}

func (a ask) match() ([]api.Bind, api.Errno) {
	params := a.params
	if params == nil {
		params = make([]bool, len(a.b))
	}
	return match.Match(a.p, a.t, a.n, a.b, params, a.rigid)
}

func hold(t *testing.T, name string, a ask, want ...api.Bind) {
	t.Helper()
	got, e := a.match()
	if e != api.OK || !slices.EqualFunc(got, want, equalBind) {
		t.Errorf("%s: %v: %v, %v, not %v", name, a, got, e, want)
	}
}

func fail(t *testing.T, name string, a ask, want api.Errno) {
	t.Helper()
	got, e := a.match()
	if e != want || len(got) > 0 {
		t.Errorf("%s: %v: %v, %v, not nothing and %v", name, a, got, e, want)
	}
}

// holdOr is hold where the error is OK, else fail.
func holdOr(t *testing.T, name string, a ask, e api.Errno, want ...api.Bind) {
	t.Helper()
	if e == api.OK {
		hold(t, name, a, want...)
	} else {
		fail(t, name, a, e)
	}
}

// P7.1: metas that are nothing yet

func TestMatch(t *testing.T) {
	for _, x := range []struct {
		name string
		a    ask
		want []api.Bind
	}{
		{"the chapter's example", ask{p: con(1, hole(0)), t: con(1, con(2)), b: binds(non)}, binds(is(con(2)))},
		{"a meta alone", ask{p: hole(0), t: lam(con(1)), b: binds(non)}, binds(is(lam(con(1))))},
		{"a Sort", ask{p: hole(0), t: sort, b: binds(non)}, binds(is(sort))},
		{"a Pi", ask{p: hole(0), t: pi(fam(1), fam(2, vari(0))), b: binds(non)}, binds(is(pi(fam(1), fam(2, vari(0)))))},
		{"two of them, told in order", ask{p: con(1, hole(0), hole(1)), t: con(1, con(2), con(3)), b: binds(non, non)}, binds(is(con(2)), is(con(3)))},
		{"two of them, the other way", ask{p: con(1, hole(1), hole(0)), t: con(1, con(2), con(3)), b: binds(non, non)}, binds(is(con(3)), is(con(2)))},
		{"one of three", ask{p: con(1, hole(1)), t: con(1, con(2)), b: binds(non, non, non)}, binds(non, is(con(2)), non)},
		{"the last one of 200", ask{p: hole(199), t: con(2), b: make([]api.Bind, 200)}, append(make([]api.Bind, 199), is(con(2)))},
		{"no metas", ask{p: con(1, vari(0)), t: con(1, vari(0)), n: 1}, nil},
		{"no metas in p", ask{p: con(1), t: con(1), b: binds(non, is(con(5)))}, binds(non, is(con(5)))},
		{"beside one that is something", ask{p: hole(0), t: con(1), b: binds(non, is(con(5)), non)}, binds(is(con(1)), is(con(5)), non)},
		{"in one entry, with it", ask{p: hole(0, vari(0)), t: con(1, vari(0)), n: 1, b: binds(non)}, binds(is(con(1, vari(0))))},
		{"in three entries, with two", ask{p: hole(0, varis(2, 0)...), t: con(1, varis(0, 2)...), n: 3, b: binds(non)}, binds(is(con(1, varis(0, 1)...)))},
		{"in three entries, with all the other way", ask{p: hole(0, varis(0, 1, 2)...), t: con(1, varis(0, 1, 2)...), n: 3, b: binds(non)}, binds(is(con(1, varis(2, 1, 0)...)))},
		{"variables around", ask{p: hole(0, vari(1)), t: con(1, varis(1, 3, 7)...), n: 3, b: binds(non)}, binds(is(con(1, varis(0, 1, 5)...)))},
		{"variables around, of no entries", ask{p: hole(0), t: con(1, varis(0, 4)...), b: binds(non)}, binds(is(con(1, varis(0, 4)...)))},
		{"a variable around with Args", ask{p: hole(0, vari(0)), t: vari(2, vari(0)), n: 2, b: binds(non)}, binds(is(vari(1, vari(0))))},
		{"below Lam, without what is bound", ask{p: lam(hole(0)), t: lam(con(1, vari(3))), n: 1, b: binds(non)}, binds(is(con(1, vari(1))))},
		{"below Lam, with what is bound", ask{p: lam(hole(0, vari(0))), t: lam(con(1, varis(0, 2)...)), n: 1, b: binds(non)}, binds(is(con(1, varis(0, 1)...)))},
		{"below Lam, with all", ask{p: lam(hole(0, varis(1, 0)...)), t: lam(con(1, varis(0, 1, 2)...)), n: 1, b: binds(non)}, binds(is(con(1, varis(0, 1, 2)...)))},
		{"below two Lams", ask{p: lams(2, hole(0, varis(0, 2)...)), t: lams(2, con(1, varis(0, 2, 3)...)), n: 1, b: binds(non)}, binds(is(con(1, varis(1, 0, 2)...)))},
		{"below Lam, a Lam in it", ask{p: lam(hole(0, vari(0))), t: lam(lam(con(1, varis(0, 1, 2)...))), b: binds(non)}, binds(is(lam(con(1, varis(0, 1, 2)...))))},
		{"in both of a Pi", ask{p: pi(hole(0), hole(1, vari(0))), t: pi(fam(1, vari(0)), fam(2, varis(0, 1)...)), b: binds(non, non)}, binds(is(fam(1, vari(0))), is(fam(2, varis(0, 1)...)))},
		{"in the first one of a Pi nothing is bound", ask{p: pi(hole(0, vari(0)), sort), t: pi(con(1, varis(0, 1)...), sort), n: 1, b: binds(non)}, binds(is(con(1, varis(0, 1)...)))},
		{"behind a Lam nothing is bound", ask{p: con(0, lam(hole(0)), hole(1)), t: con(0, lam(con(1)), con(2, vari(0))), b: binds(non, non)}, binds(is(con(1)), is(con(2, vari(0))))},
		{"in Args of a constant nothing is bound", ask{p: con(0, sort, hole(0)), t: con(0, sort, vari(0)), b: binds(non)}, binds(is(vari(0)))},
		{"in Args of a variable and a family", ask{p: vari(0, fam(1, hole(0)), hole(1)), t: vari(0, fam(1, con(2)), con(3)), b: binds(non, non)}, binds(is(con(2)), is(con(3)))},
		{"below 58 Lams", ask{p: lams(58, hole(0, varis(57, 0)...)), t: lams(58, vari(57)), b: binds(non)}, binds(is(vari(1)))},
		{"below 59 Lams", ask{p: lams(59, hole(0)), t: lams(59, vari(60)), b: binds(non)}, binds(is(vari(1)))},
		{"4000 nodes", ask{p: hole(0), t: wide(4000), b: binds(non)}, binds(is(wide(4000)))},
		{"the greatest variable", ask{p: hole(0, vari(0)), t: vari(math.MaxInt), n: 2, b: binds(non)}, binds(is(vari(math.MaxInt - 1)))},
	} {
		hold(t, x.name, x.a, x.want...)
	}
}

func TestAMetaThatThereIsNot(t *testing.T) {
	for _, x := range []struct {
		name string
		a    ask
	}{
		{"of none", ask{p: hole(0), t: con(1)}},
		{"just beyond", ask{p: hole(2), t: con(1), b: binds(non, non)}},
		{"far beyond", ask{p: hole(math.MaxInt), t: con(1), b: binds(non, non)}},
		{"200 of 200", ask{p: hole(200), t: con(1), b: make([]api.Bind, 200)}},
		{"beyond what is something", ask{p: hole(1), t: con(1), b: binds(is(con(1)))}},
		{"as an Arg", ask{p: con(1, hole(0), hole(1)), t: con(1, con(2), con(3)), b: binds(non)}},
		{"below Lam", ask{p: lam(hole(1)), t: lam(con(1)), b: binds(non)}},
		{"in Pi", ask{p: pi(sort, hole(1)), t: pi(sort, con(1)), b: binds(non)}},
		{"with Args that are no pattern", ask{p: hole(1, con(1)), t: con(1), b: binds(non)}},
		{"with Args that there are not", ask{p: hole(1, hole(5)), t: con(1), b: binds(non)}},
		{"with an Arg of which there is none", ask{p: hole(1, vari(0)), t: vari(1), n: 2, b: binds(non)}},
		{"against the same", ask{p: hole(1), t: hole(1), b: binds(non)}},
	} {
		fail(t, x.name, x.a, api.ErrScope)
	}
}

func TestArgsThatAreNoPattern(t *testing.T) {
	for _, x := range []struct {
		name string
		p    api.Term
		n    int
	}{
		{"a constant", hole(0, con(1)), 3},
		{"a Lam", hole(0, lam(vari(0))), 3},
		{"a Sort", hole(0, sort), 3},
		{"a Meta", hole(0, hole(1)), 3},
		{"itself", hole(0, hole(0)), 3},
		{"a Meta that is something", hole(0, hole(2)), 3},
		{"a Meta that there is not", hole(0, hole(9)), 3},
		{"a variable with Args", hole(0, vari(0, vari(1))), 3},
		{"a variable twice", hole(0, varis(1, 1)...), 3},
		{"a variable twice, apart", hole(0, varis(1, 0, 2, 1)...), 3},
		{"just not below", hole(0, vari(3)), 3},
		{"far above", hole(0, vari(1000)), 3},
		{"of no entries", hole(0, vari(0)), 0},
		{"the last one of them", hole(0, varis(0, 1, 3)...), 3},
		{"behind good ones", hole(0, vari(0), vari(1), con(1)), 3},
		{"just not below, below Lam", lam(hole(0, vari(4))), 3},
		{"just not below, below Lam, of no entries", lam(hole(0, vari(1))), 0},
		{"twice, below Lam", lam(hole(0, varis(0, 0)...)), 3},
		{"just not below, below two Lams", lams(2, hole(0, vari(5))), 3},
		{"just not below, below 58 Lams", lams(58, hole(0, vari(61))), 3},
		{"just not below, in the first one of Pi", pi(hole(0, vari(3)), vari(0)), 3},
		{"just not below, in the second one of Pi", pi(vari(0), hole(0, vari(4))), 3},
		{"just not below, in a constant", con(1, vari(0), hole(0, vari(3))), 3},
	} {
		// It is told whatever the term is there: also one that clashes, and one that would be a variable.
		for _, at := range []api.Term{con(7), vari(9), lam(con(7)), vari(0), vari(4), hole(0)} {
			whole, is := put(x.p, at)
			if !is {
				t.Fatalf("%s: no Meta", x.name)
			}
			for _, params := range [][]bool{nil, {true, true, true}} {
				b := []api.Bind{non, non, {Is: true, T: con(7)}}
				fail(t, x.name, ask{p: x.p, t: whole, n: x.n, b: b, params: params}, api.ErrOutside)
			}
		}
	}
	for n := range 5 {
		for k := range 4 {
			a := ask{p: lams(k, hole(0, vari(n+k))), t: lams(k, con(1)), n: n, b: binds(non)}
			fail(t, "just not below", a, api.ErrOutside)
			if a.n++; a.n > 0 {
				hold(t, "just below", a, is(con(1)))
			}
		}
	}
}

// put is a term with another one instead of the first Meta from the left that is not within one.
func put(p, at api.Term) (api.Term, bool) {
	if p.Kind == api.Meta {
		return at, true
	}
	for i, a := range p.Args {
		if whole, is := put(a, at); is {
			l := slices.Clone(p.Args)
			l[i] = whole
			return node(p.Kind, p.Head, l...), true
		}
	}
	return p, false
}

func TestWhatInvertHasNoneFor(t *testing.T) {
	for _, x := range []struct {
		name string
		p, t api.Term
		n    int
	}{
		{"an entry", hole(0), vari(0), 1},
		{"just below n", hole(0), vari(2), 3},
		{"another one", hole(0, vari(1)), vari(0), 2},
		{"deep", hole(0, vari(1)), con(1, lam(con(2, vari(1), lam(vari(2))))), 2},
		{"with Args", hole(0, vari(1)), vari(0, vari(1)), 2},
		{"within the Args of one that is there", hole(0, vari(1)), vari(1, vari(0)), 2},
		{"within a rigid Meta", hole(0, vari(1)), hole(4, vari(0)), 2},
		{"what is bound below Lam", lam(hole(0)), lam(vari(0)), 0},
		{"what is bound by the second one of two", lams(2, hole(0, vari(0))), lams(2, vari(1)), 0},
		{"an entry below Lam", lam(hole(0, vari(0))), lam(vari(1)), 1},
		{"what is bound by Pi", pi(sort, hole(0)), pi(sort, vari(0)), 0},
		{"not kept of all", hole(0, varis(0, 2, 3)...), con(1, varis(0, 2, 3, 1)...), 4},
	} {
		for _, params := range [][]bool{nil, {true}} {
			fail(t, x.name, ask{p: x.p, t: x.t, n: x.n, b: binds(non), params: params}, api.ErrClash)
		}
	}
	hold(t, "one around is no entry", ask{p: hole(0), t: vari(3), n: 3, b: binds(non)}, is(vari(0)))
	hold(t, "one around, below Lam", ask{p: lam(hole(0)), t: lam(vari(4)), n: 3, b: binds(non)}, is(vari(0)))
	hold(t, "bound in it", ask{p: hole(0), t: lam(vari(0)), n: 3, b: binds(non)}, is(lam(vari(0))))
}

func TestParams(t *testing.T) {
	rigid := []bool{false, true, false, true}
	for _, x := range []struct {
		name string
		p, t api.Term
		n    int
		is   bool
		want api.Term
	}{
		{"a Var without Args", hole(1, varis(2, 0)...), vari(2), 3, true, vari(1)},
		{"a Var without Args, around", hole(1), vari(5), 3, true, vari(2)},
		{"a Var without Args, bound", lam(hole(1, vari(0))), lam(vari(0)), 3, true, vari(0)},
		{"a Var with an Arg", hole(1, varis(2, 0)...), vari(2, vari(0)), 3, false, sort},
		{"a Var with an Arg, around", hole(1), vari(5, con(1)), 3, false, sort},
		{"a Meta that rigid tells of", hole(1), hole(1), 3, true, hole(1)},
		{"another Meta that rigid tells of", hole(1), hole(3), 3, true, hole(3)},
		{"a Meta that rigid tells of, with Args", hole(1, varis(2, 0)...), hole(3, varis(0, 2)...), 3, true, hole(3, varis(0, 1)...)},
		{"a Meta that rigid tells of, below Lam", lam(hole(1)), lam(hole(3)), 0, true, hole(3)},
		{"a Meta that rigid tells not of", hole(1), hole(2), 3, false, sort},
		{"a Meta of the number 0", hole(1), hole(0), 3, false, sort},
		{"a Meta just behind those of rigid", hole(1), hole(4), 3, false, sort},
		{"a Meta far behind those of rigid", hole(1), hole(math.MaxInt), 3, false, sort},
		{"a constant", hole(1), con(1), 3, false, sort},
		{"a constant of a variable", hole(1, vari(0)), con(1, vari(0)), 3, false, sort},
		{"a family", hole(1), fam(1), 3, false, sort},
		{"a Sort", hole(1), sort, 3, false, sort},
		{"a Pi", hole(1), pi(sort, sort), 3, false, sort},
		{"a Lam of a variable", hole(1), lam(vari(0)), 3, false, sort},
	} {
		a := ask{p: x.p, t: x.t, n: x.n, b: binds(non, non, non), params: []bool{false, true, false}, rigid: rigid}
		if x.is {
			hold(t, x.name, a, non, is(x.want), non)
		} else {
			fail(t, x.name, a, api.ErrClash)
			a.params = make([]bool, 3)
			if _, e := a.match(); e != api.OK {
				t.Errorf("%s, of no param: %v", x.name, e)
			}
			a.params = []bool{true, false, true}
			if _, e := a.match(); e != api.OK {
				t.Errorf("%s, beside params: %v", x.name, e)
			}
		}
	}
	all := []bool{true}
	fail(t, "no rigid", ask{p: hole(0), t: hole(0), b: binds(non), params: all}, api.ErrClash)
	hold(t, "what rigid tells is of t's metas", ask{p: hole(0), t: hole(5), b: binds(non), params: all, rigid: []bool{false, false, false, false, false, true}}, is(hole(5)))
	fail(t, "a param that is no pattern", ask{p: hole(0, con(1)), t: con(1), b: binds(non), params: all}, api.ErrOutside)
	hold(t, "of one that is something already params tell nothing", ask{p: hole(0), t: con(1), b: binds(is(con(1))), params: all}, is(con(1)))
	hold(t, "a param twice", ask{p: con(0, hole(0), hole(0)), t: con(0, vari(2), vari(2)), b: binds(non), params: all}, is(vari(2)))
	fail(t, "a param twice, of two variables", ask{p: con(0, hole(0), hole(0)), t: con(0, vari(2), vari(3)), b: binds(non), params: all}, api.ErrClash)
}

// P7.1: metas that are something already

func TestMetasThatAreSomething(t *testing.T) {
	for _, x := range []struct {
		name string
		p, t api.Term
		n    int
		b    []api.Bind
		e    api.Errno
	}{
		{"the same", hole(0), con(1), 0, binds(is(con(1))), api.OK},
		{"another one", hole(0), con(2), 0, binds(is(con(1))), api.ErrClash},
		{"another kind", hole(0), fam(1), 0, binds(is(con(1))), api.ErrClash},
		{"with more Args", hole(0), con(1, con(1)), 0, binds(is(con(1))), api.ErrClash},
		{"with its Arg put", hole(0, con(2)), con(1, con(2)), 0, binds(is(con(1, vari(0)))), api.OK},
		{"with another Arg put", hole(0, con(2)), con(1, con(3)), 0, binds(is(con(1, vari(0)))), api.ErrClash},
		{"reduced", hole(0, lam(con(2, vari(0)))), con(2, con(1)), 0, binds(is(vari(0, con(1)))), api.OK},
		{"dropped", hole(0, con(2)), con(1), 0, binds(is(con(1))), api.OK},
		{"Args that are no pattern", hole(0, varis(1, 1)...), con(1, varis(1, 1)...), 2, binds(is(con(1, varis(0, 1)...))), api.OK},
		{"a variable around", hole(0, vari(0)), vari(3), 3, binds(is(vari(1))), api.OK},
		{"a variable around, of fewer entries", hole(0, vari(0)), vari(3), 2, binds(is(vari(1))), api.ErrClash},
		{"a variable around, below Lam", lam(hole(0, vari(0))), lam(con(1, varis(0, 3, 4)...)), 2, binds(is(con(1, varis(0, 1, 2)...))), api.OK},
		{"a variable around, below Lam, as above it", lam(hole(0, vari(0))), lam(con(1, varis(0, 2, 3)...)), 2, binds(is(con(1, varis(0, 1, 2)...))), api.ErrClash},
		{"below two Lams", lams(2, hole(0)), lams(2, vari(5)), 3, binds(is(vari(0))), api.OK},
		{"in the first one of Pi", pi(hole(0), sort), pi(vari(3), sort), 3, binds(is(vari(0))), api.OK},
		{"in the second one of Pi", pi(sort, hole(0)), pi(sort, vari(4)), 3, binds(is(vari(0))), api.OK},
		{"an Arg is filled", hole(0, hole(1)), con(1, con(2)), 0, binds(is(con(1, vari(0))), is(con(2))), api.OK},
		{"an Arg is filled, to another one", hole(0, hole(1)), con(1, con(3)), 0, binds(is(con(1, vari(0))), is(con(2))), api.ErrClash},
		{"an Arg is filled with itself", hole(0, hole(0, con(2))), con(1, con(1, con(2))), 0, binds(is(con(1, vari(0)))), api.OK},
		{"an Arg's Arg is filled", hole(0, con(4, hole(1, hole(2)))), con(1, con(4, con(5, con(6)))), 0, binds(is(con(1, vari(0))), is(con(5, vari(0))), is(con(6))), api.OK},
		{"an Arg is filled below Lam", hole(0, lam(hole(1))), con(1, lam(vari(2))), 1, binds(is(con(1, vari(0))), is(vari(0))), api.OK},
		{"others that are nothing yet do not matter", hole(1, hole(3)), con(1, con(2)), 0, binds(non, is(con(1, vari(0))), non, is(con(2)), non), api.OK},
		{"against what stands there as itself", hole(0), hole(0), 0, binds(is(hole(0))), api.OK},
		{"what it is has a rigid Meta, which is not filled", hole(0), con(1, hole(1)), 0, binds(is(con(1, hole(1))), is(con(9))), api.OK},
		{"what it is has a rigid Meta, and is not filled to that", hole(0), con(1, con(9)), 0, binds(is(con(1, hole(1))), is(con(9))), api.ErrClash},
		{"what it is has a rigid Meta that is nothing yet of p's", hole(0), hole(1), 0, binds(is(hole(1)), non), api.OK},
		{"an Arg that is nothing yet", hole(0, hole(1)), con(1, con(2)), 0, binds(is(con(1, vari(0))), non), api.ErrOutside},
		{"the last Arg is nothing yet", hole(0, con(1), con(2), hole(1)), con(1), 0, binds(is(con(1)), non), api.ErrOutside},
		{"an Arg's Arg is nothing yet", hole(0, con(3, hole(2, hole(1)))), con(1), 0, binds(is(con(1)), non, is(con(2))), api.ErrOutside},
		{"nothing yet below Lam", hole(0, lam(con(3, hole(1)))), con(1), 0, binds(is(con(1)), non), api.ErrOutside},
		{"nothing yet within one that is something", hole(0, hole(2, hole(1))), con(1), 0, binds(is(con(1)), non, is(con(2))), api.ErrOutside},
		{"nothing yet deep", hole(0, lams(50, pi(sort, con(1, hole(1))))), con(1), 0, binds(is(con(1)), non), api.ErrOutside},
		{"an Arg that is dropped is nothing yet", hole(0, hole(1)), con(1), 0, binds(is(con(1)), non), api.ErrOutside},
		{"an Arg of which there is none", hole(0, hole(1)), con(1), 0, binds(is(con(1))), api.ErrOutside},
		{"an Arg's Arg of which there is none", hole(0, con(3, lam(hole(0, hole(7))))), con(1), 0, binds(is(con(1))), api.ErrOutside},
		{"an Arg of the greatest number", hole(0, hole(math.MaxInt)), con(1), 0, binds(is(con(1))), api.ErrOutside},
		{"nothing yet, ahead of a clash", hole(0, hole(1)), con(7), 0, binds(is(con(1)), non), api.ErrOutside},
		{"nothing yet, ahead of Fill's error", hole(0, sort, hole(1)), con(7), 0, binds(is(vari(1, con(1))), non), api.ErrOutside},
	} {
		holdOr(t, x.name, ask{p: x.p, t: x.t, n: x.n, b: x.b}, x.e, x.b...)
	}
}

func TestFillsOwnError(t *testing.T) {
	taken, loop := is(vari(0, con(1))), lam(vari(0, vari(0)))
	for _, x := range []struct {
		name string
		p, t api.Term
		n    int
		b    []api.Bind
		e    api.Errno
	}{
		{"a Sort that is applied", hole(0, sort), con(1), 0, binds(taken), api.ErrType},
		{"a Pi that is applied", hole(0, pi(sort, sort)), con(1), 0, binds(taken), api.ErrType},
		{"a Sort that is applied in an Arg", hole(1, hole(0, sort)), con(1), 0, binds(taken, is(con(1))), api.ErrType},
		{"what never ends", hole(0, loop), con(1), 0, binds(is(vari(0, vari(0)))), api.ErrLimit},
		{"too many nodes", hole(0, wide(2000)), con(1), 0, binds(is(con(0, varis(0, 0)...))), api.ErrLimit},
		{"too many nodes in an Arg", hole(1, con(0, hole(0), hole(0))), con(1), 0, binds(is(wide(2000)), is(con(1))), api.ErrLimit},
		{"too deep", hole(0, lams(58, con(1))), con(1), 0, binds(is(lams(2, vari(2)))), api.ErrLimit},
		{"just not too deep", hole(0, lams(58, con(1))), lams(59, con(1)), 0, binds(is(lam(vari(1)))), api.OK},
		{"201 Args", hole(0, times(201, con(1))...), con(1), 0, binds(is(con(1))), api.ErrArg},
		{"200 Args", hole(0, times(200, con(1))...), con(1), 0, binds(is(con(1))), api.OK},
		{"1001 entries", lam(hole(0)), lam(con(1)), 1000, binds(is(con(1))), api.ErrArg},
		{"1000 entries", lam(hole(0)), lam(con(1)), 999, binds(is(con(1))), api.OK},
		{"1001 entries, in an Arg alone", hole(0, lam(hole(0, con(1)))), con(1), 1000, binds(is(con(1))), api.OK},
		{"ahead of a clash behind it", con(0, hole(0, sort), con(1)), con(0, con(1), con(2)), 0, binds(taken), api.ErrType},
	} {
		holdOr(t, x.name, ask{p: x.p, t: x.t, n: x.n, b: x.b}, x.e, x.b...)
	}
}

func TestAMetaThatStandsTwice(t *testing.T) {
	for _, x := range []struct {
		name string
		p, t api.Term
		n    int
		e    api.Errno
		want []api.Bind
	}{
		{"the same twice", con(0, hole(0), hole(0)), con(0, con(1), con(1)), 0, api.OK, binds(is(con(1)), non)},
		{"two different ones", con(0, hole(0), hole(0)), con(0, con(1), con(2)), 0, api.ErrClash, nil},
		{"three times, the last one different", con(0, hole(0), hole(0), hole(0)), con(0, con(1), con(1), con(2)), 0, api.ErrClash, nil},
		{"with others between", con(0, hole(0), hole(1), hole(0)), con(0, con(1), con(2), con(1)), 0, api.OK, binds(is(con(1)), is(con(2)))},
		{"below Lam behind", con(0, hole(0), lam(hole(0))), con(0, vari(0), lam(vari(1))), 0, api.OK, binds(is(vari(0)), non)},
		{"below Lam behind, not renumbered", con(0, hole(0), lam(hole(0))), con(0, vari(0), lam(vari(0))), 0, api.ErrClash, nil},
		{"below Lam ahead", con(0, lam(hole(0)), hole(0)), con(0, lam(vari(1)), vari(0)), 0, api.OK, binds(is(vari(0)), non)},
		{"with an Arg that is a term", con(0, lam(hole(0, vari(0))), hole(0, con(1))), con(0, lam(con(2, vari(0))), con(2, con(1))), 0, api.OK, binds(is(con(2, vari(0))), non)},
		{"with an Arg that is another term", con(0, lam(hole(0, vari(0))), hole(0, con(1))), con(0, lam(con(2, vari(0))), con(2, con(3))), 0, api.ErrClash, nil},
		{"the other way, which is no pattern yet", con(0, hole(0, con(1)), lam(hole(0, vari(0)))), con(0, con(2, con(1)), lam(con(2, vari(0)))), 0, api.ErrOutside, nil},
		{"with an Arg that has become something", con(0, hole(1), lam(hole(0, vari(0))), hole(0, hole(1))), con(0, con(4), lam(con(2, vari(0))), con(2, con(4))), 0, api.OK, binds(is(con(2, vari(0))), is(con(4)))},
		{"with an Arg that is to become something", con(0, lam(hole(0, vari(0))), hole(0, hole(1)), hole(1)), con(0, lam(con(2, vari(0))), con(2, con(4)), con(4)), 0, api.ErrOutside, nil},
		{"with Args the other way", con(0, hole(0, varis(0, 1)...), hole(0, varis(1, 0)...)), con(0, con(1, varis(0, 1)...), con(1, varis(1, 0)...)), 2, api.OK, binds(is(con(1, varis(1, 0)...)), non)},
		{"with Args the other way, the same", con(0, hole(0, varis(0, 1)...), hole(0, varis(1, 0)...)), con(0, con(1, varis(0, 1)...), con(1, varis(0, 1)...)), 2, api.ErrClash, nil},
		{"a rigid Meta of its own number twice", con(0, hole(0), hole(0)), con(0, hole(0), hole(0)), 0, api.OK, binds(is(hole(0)), non)},
		{"a rigid Meta of the other's number, which is something", con(0, hole(1), hole(0), hole(0)), con(0, con(5), hole(1), hole(1)), 0, api.OK, binds(is(hole(1)), is(con(5)))},
		{"a rigid Meta is not filled with what the other one is", con(0, hole(1), hole(0), hole(0)), con(0, con(5), hole(1), con(5)), 0, api.ErrClash, nil},
	} {
		holdOr(t, x.name, ask{p: x.p, t: x.t, n: x.n, b: binds(non, non)}, x.e, x.want...)
	}
}

// P7.1: other nodes

func TestOtherNodes(t *testing.T) {
	for _, x := range []struct {
		name string
		p, t api.Term
		is   bool
	}{
		{"Sorts", sort, sort, true},
		{"Pis", pi(fam(1), vari(0)), pi(fam(1), vari(0)), true},
		{"Lams", lam(vari(0)), lam(vari(0)), true},
		{"families", fam(1, con(2)), fam(1, con(2)), true},
		{"constants", con(1, con(2)), con(1, con(2)), true},
		{"variables", vari(1, con(2)), vari(1, con(2)), true},
		{"variables beyond all entries", vari(50), vari(50), true},
		{"another Kind", con(1), fam(1), false},
		{"another Kind, the other way", fam(1), con(1), false},
		{"a constant and a variable", con(1), vari(1), false},
		{"a Sort and a family", sort, fam(0), false},
		{"a Sort and a Pi", sort, pi(sort, sort), false},
		{"a Lam and a constant of one", lam(con(1)), con(0, con(1)), false},
		{"a Pi and a constant of two", pi(sort, sort), con(0, sort, sort), false},
		{"another Head", con(1), con(2), false},
		{"another Head of a family", fam(1), fam(2), false},
		{"another variable", vari(1), vari(0), false},
		{"another Head with the same Arg", con(1, con(3)), con(2, con(3)), false},
		{"another Head with the same Args", con(1, con(3), con(4)), con(2, con(3), con(4)), false},
		{"more Args", con(1), con(1, con(2)), false},
		{"fewer Args", con(1, con(2)), con(1), false},
		{"one more Arg behind the same", con(1, con(2)), con(1, con(2), con(2)), false},
		{"one Arg less behind the same", con(1, con(2), con(2)), con(1, con(2)), false},
		{"more Args of a variable", vari(0), vari(0, con(1)), false},
		{"another one in the first Arg", con(1, con(2), con(3)), con(1, con(4), con(3)), false},
		{"another one in the last Arg", con(1, con(2), con(3)), con(1, con(2), con(4)), false},
		{"another one in the first one of Pi", pi(fam(1), fam(2)), pi(fam(3), fam(2)), false},
		{"another one in the second one of Pi", pi(fam(1), fam(2)), pi(fam(1), fam(3)), false},
		{"another one below Lam", lam(vari(0)), lam(vari(1)), false},
		{"another one deep", lams(58, con(1, vari(3))), lams(58, con(1, vari(4))), false},
		{"a rigid Meta is no constant", con(1), hole(1), false},
		{"a rigid Meta is no variable", vari(0), hole(0), false},
		{"a rigid Meta is no Sort", sort, hole(0), false},
		{"a rigid Meta is no family with its Args", fam(0, con(1)), hole(0, con(1)), false},
	} {
		for _, b := range [][]api.Bind{nil, binds(non), binds(is(con(1)))} {
			a := ask{p: x.p, t: x.t, n: 1, b: b, rigid: []bool{true}}
			if x.is {
				hold(t, x.name, a, b...)
			} else {
				fail(t, x.name, a, api.ErrClash)
			}
		}
	}
}

// A rigid Meta is like a constant: it is told as it is, with its Args inverted, and held against itself alone.
func TestRigidMetas(t *testing.T) {
	hold(t, "alone", ask{p: hole(0), t: hole(3), b: binds(non)}, is(hole(3)))
	hold(t, "of the same number", ask{p: hole(0), t: hole(0), b: binds(non)}, is(hole(0)))
	hold(t, "within", ask{p: con(1, hole(0)), t: con(1, lam(con(2, hole(7, vari(0))))), b: binds(non)}, is(lam(con(2, hole(7, vari(0))))))
	hold(t, "with Args", ask{p: hole(0, varis(2, 0)...), t: hole(1, vari(0), con(1, vari(2)), vari(4)), n: 3, b: binds(non)}, is(hole(1, vari(0), con(1, vari(1)), vari(3))))
	hold(t, "with Args that are no pattern", ask{p: hole(0), t: hole(1, con(1), con(1)), b: binds(non)}, is(hole(1, con(1), con(1))))
	fail(t, "twice, of two numbers", ask{p: con(0, hole(0), hole(0)), t: con(0, hole(1), hole(2)), b: binds(non)}, api.ErrClash)
	fail(t, "twice, of two Args", ask{p: con(0, hole(0), hole(0)), t: con(0, hole(1, con(1)), hole(1, con(2))), b: binds(non)}, api.ErrClash)
	hold(t, "swapped", ask{p: con(0, hole(0), hole(1), hole(0), hole(1)), t: con(0, hole(1), hole(0), hole(1), hole(0)), b: binds(non, non)}, is(hole(1)), is(hole(0)))
	hold(t, "beyond all that p has", ask{p: hole(0), t: hole(math.MaxInt), b: binds(non)}, is(hole(math.MaxInt)))
}

// Of two errors the one further to the left is told.
func TestTheFirstErrorThatIsMet(t *testing.T) {
	scope, outside, clash, untaken := hole(9), hole(0, con(1)), con(1), hole(1, sort)
	parts := []struct {
		p api.Term
		e api.Errno
	}{{scope, api.ErrScope}, {outside, api.ErrOutside}, {clash, api.ErrClash}, {untaken, api.ErrType}, {hole(1, hole(0)), api.ErrOutside}, {hole(2, times(201, con(1))...), api.ErrArg}}
	at, b := con(2), binds(non, is(vari(0, con(1))), is(con(2)), non)
	for _, x := range parts {
		fail(t, "alone", ask{p: x.p, t: at, b: b}, x.e)
		for _, y := range parts {
			fail(t, "of a constant", ask{p: con(0, x.p, y.p), t: con(0, at, at), b: b}, x.e)
			fail(t, "of a family, behind another", ask{p: fam(0, hole(2), x.p, y.p), t: fam(0, at, at, at), b: b}, x.e)
			fail(t, "of a variable, behind one that becomes something", ask{p: vari(5, hole(3), x.p, hole(3), y.p), t: vari(5, at, at, at, at), b: b}, x.e)
			fail(t, "of Pi", ask{p: pi(x.p, y.p), t: pi(at, at), b: b}, x.e)
			fail(t, "deep ahead of what is behind", ask{p: con(0, lam(con(3, x.p)), y.p), t: con(0, lam(con(3, at)), at), b: b}, x.e)
			fail(t, "ahead of what is deep behind", ask{p: con(0, x.p, lam(con(3, y.p))), t: con(0, at, lam(con(3, at))), b: b}, x.e)
		}
		fail(t, "a node is held ahead of its Args", ask{p: con(0, x.p), t: con(4, at), b: b}, api.ErrClash)
		fail(t, "how many Args there are ahead of them", ask{p: con(0, x.p), t: con(0, at, at), b: b}, api.ErrClash)
		fail(t, "a Kind ahead of Args", ask{p: con(0, x.p), t: fam(0, at), b: b}, api.ErrClash)
	}
	two := con(0, hole(0), hole(0), outside)
	fail(t, "a clash by what was told ahead", ask{p: two, t: con(0, con(1), con(2), con(3)), b: b}, api.ErrClash)
}

// P7.1: how many entries there are

func TestEntries(t *testing.T) {
	for _, n := range []int{0, 1, 2, 500, 999, 1000} {
		hold(t, "a variable around", ask{p: hole(0), t: vari(n), n: n, b: binds(non)}, is(vari(0)))
		hold(t, "no metas", ask{p: con(1, vari(n)), t: con(1, vari(n)), n: n})
		hold(t, "what is something", ask{p: hole(0), t: vari(n), n: n, b: binds(is(vari(0)))}, is(vari(0)))
		fail(t, "no pattern", ask{p: hole(0, vari(n)), t: con(1), n: n, b: binds(non)}, api.ErrOutside)
		if n > 0 {
			hold(t, "the first entry", ask{p: hole(0, vari(n-1)), t: con(1, vari(n-1)), n: n, b: binds(non)}, is(con(1, vari(0))))
			fail(t, "an entry that it has not", ask{p: hole(0), t: vari(n - 1), n: n, b: binds(non)}, api.ErrClash)
		}
	}
	hold(t, "1000 by a Lam", ask{p: lam(hole(0, vari(999))), t: lam(con(1, varis(999, 1000)...)), n: 999, b: binds(non)}, is(con(1, varis(0, 1)...)))
	hold(t, "beyond 1000 by a Lam, without metas there", ask{p: lam(vari(1000)), t: lam(vari(1000)), n: 1000})
	hold(t, "1000, a Meta beside Lams", ask{p: con(0, lam(vari(0)), hole(0)), t: con(0, lam(vari(0)), con(1)), n: 1000, b: binds(non)}, is(con(1)))
}

// Invert takes 1000 entries at most, as Fill does: its error is told, and no clash, for Meta 0 that is Const 1 would be the same.
func TestBeyondAThousandEntries(t *testing.T) {
	fail(t, "one Lam", ask{p: lam(hole(0)), t: lam(con(1)), n: 1000, b: binds(non)}, api.ErrArg)
	fail(t, "two Lams", ask{p: lams(2, hole(0)), t: lams(2, con(1)), n: 999, b: binds(non)}, api.ErrArg)
	fail(t, "Pi", ask{p: pi(sort, hole(0)), t: pi(sort, con(1)), n: 1000, b: binds(non)}, api.ErrArg)
	fail(t, "no pattern is told ahead of it", ask{p: lam(hole(0, vari(1001))), t: lam(con(1)), n: 1000, b: binds(non)}, api.ErrOutside)
	fail(t, "a clash ahead of it", ask{p: con(0, con(1), lam(hole(0))), t: con(0, con(2), lam(con(1))), n: 1000, b: binds(non)}, api.ErrClash)
}

// P7.2

func TestWhole(t *testing.T) {
	for _, x := range []struct {
		name string
		b    []api.Bind
		want []api.Term
		is   bool
	}{
		{"of nil", nil, nil, true},
		{"of none", binds(), nil, true},
		{"of one", binds(is(con(1, vari(0)))), list(con(1, vari(0))), true},
		{"of a Sort, which is noughts", binds(is(sort)), list(sort), true},
		{"in order", binds(is(con(1)), is(lam(vari(2))), is(hole(0)), is(con(1))), list(con(1), lam(vari(2)), hole(0), con(1)), true},
		{"of one that is nothing", binds(non), nil, false},
		{"the first one is nothing", binds(non, is(con(1)), is(con(2))), nil, false},
		{"the one between is nothing", binds(is(con(1)), non, is(con(2))), nil, false},
		{"the last one is nothing", binds(is(con(1)), is(con(2)), non), nil, false},
		{"all are nothing", binds(non, non), nil, false},
		{"nothing, though a term stands there", binds(is(con(1)), api.Bind{T: con(2)}), nil, false},
		{"of one that may not be", binds(is(con(-1, node(9, 3)))), list(con(-1, node(9, 3))), true},
	} {
		got, is := match.Whole(x.b)
		if is != x.is || !slices.EqualFunc(got, x.want, equal) {
			t.Errorf("%s: %v, %v, not %v, %v", x.name, got, is, x.want, x.is)
		}
	}
	many := slices.Repeat(binds(is(con(3))), 1000)
	if got, is := match.Whole(many); !is || !slices.EqualFunc(got, times(1000, con(3)), equal) {
		t.Errorf("of a thousand: %v, %v", got, is)
	}
	if got, is := match.Whole(append(many, non)); is || got != nil {
		t.Errorf("of a thousand and one that is nothing: %v, %v", got, is)
	}
}
