package general_test

import (
	"slices"
	"testing"

	"amanuensis/api"
	"amanuensis/general"
)

// R3

// asked is what is asked, and what is told of it.
type asked struct {
	name string
	ctx  []api.Term
	a    api.Term
	no   int
	want told
}

// given are things of all sorts, made anew each time: right ones and wrong ones.
func given() []asked {
	row := func() api.Term { return fam(9, con(2, con(2, vari(0))), lam(vari(1, vari(0)))) }
	part := row()
	deepest := deep(58, of)
	return []asked{
		{"nothing", nil, nat, 0, unknown(nil, nat, hole(0))},
		{"a Fam with Args", nil, row(), 0, unknown(nil, row(), hole(0))},
		{"entries", list(nat, row(), fam(3, hole(1, vari(0)))), row(), 2, unknown(list(nat, row(), fam(3, hole(1, vari(0)))), row(), hole(2, down(3)...))},
		{"things", nil, pis(row(), row(), nat), 2, unknown(list(row(), row()), nat, lams(2, hole(2, down(2)...)))},
		{"both", list(row(), nat), pis(row(), row(), row()), 2, unknown(list(row(), nat, row(), row()), row(), lams(2, hole(2, down(4)...)))},
		// One part stands in all places, and shares its Args with itself.
		{"one thing", list(part, part), pis(part, part, part), 2, unknown(list(row(), row(), row(), row()), row(), lams(2, hole(2, down(4)...)))},
		{"many", times(20, row()), asking(times(20, row()), row()), 9, unknown(times(40, row()), row(), lams(20, hole(9, down(40)...)))},
		{"deep", list(deepest), pi(deepest, deepest), 0, unknown(list(deepest, deepest), deep(58, of), lam(hole(0, down(2)...)))},
		{"too many", times(20, row()), asking(times(21, row()), row()), 9, wrong(api.ErrArg)},
		{"what may not be", list(row(), fam(9, con(-1, row()))), row(), 0, wrong(api.ErrArg)},
		{"a type that may not be", list(row()), pi(row(), fam(9, con(-1, row()))), 0, wrong(api.ErrArg)},
		{"no below 0", list(row()), row(), -1, wrong(api.ErrArg)},
		{"a Pi in the context", list(row(), pi(row(), row())), row(), 0, wrong(api.ErrOutside)},
		{"a Pi asked for", list(row()), pi(pi(row(), row()), row()), 0, wrong(api.ErrOutside)},
		{"a Const", list(row()), pi(row(), con(0, row())), 0, wrong(api.ErrOutside)},
	}
}

func (q asked) ask() told {
	d, x, e := general.General(q.ctx, q.a, q.no)
	return told{d, x, e}
}

func copied(t api.Term) api.Term { return node(t.Kind, t.Head, copiedList(t.Args)...) }

func copiedList(l []api.Term) []api.Term {
	l = slices.Clone(l)
	for i := range l {
		l[i] = copied(l[i])
	}
	return l
}

// scribble changes each node of a list, those below, and what lies behind each list's end.
func scribble(l []api.Term) {
	l = l[:cap(l)]
	for i := range l {
		scribble(l[i].Args)
		l[i] = node(l[i].Kind+1, l[i].Head+1, sort)
	}
}

// parts are the lists of an answer that stand in no other one of it.
func (a told) parts() [][]api.Term {
	l := [][]api.Term{a.d.Ctx, a.d.T.Args, a.x.Args}
	for _, t := range a.d.Ctx {
		l = append(l, t.Args)
	}
	return l
}

func TestChangedArgumentsChangeNoAnswer(t *testing.T) {
	for _, q := range given() {
		want := told{api.MetaDecl{Ctx: copiedList(q.want.d.Ctx), T: copied(q.want.d.T)}, copied(q.want.x), q.want.e}
		got := q.ask()
		scribble(q.ctx)
		scribble(q.a.Args)
		if !got.equal(want) {
			t.Errorf("%s: a change to what was given is seen in %s", q.name, short(got))
		}
	}
}

func TestAChangedAnswerChangesNothing(t *testing.T) {
	for i, q := range given() {
		ctx, a := copiedList(q.ctx), copied(q.a)
		for j := range q.ask().parts() {
			scribble(q.ask().parts()[j])
			if !slices.EqualFunc(q.ctx, ctx, equal) || !equal(q.a, a) {
				t.Fatalf("%s: a change to part %d of the answer is seen in what was given", q.name, j)
			}
			hold(t, q.name+", again", q.ctx, q.a, q.no, given()[i].want)
		}
	}
}

// No part of an answer shares anything with another one, though what was given does.
func TestPartsAreApart(t *testing.T) {
	for i, q := range given() {
		// The last ones are those of the entries, which lie in the context itself.
		for j := range q.ask().parts() {
			got, want := q.ask(), given()[i].want
			scribble(got.parts()[j])
			same := slices.EqualFunc(got.d.Ctx, want.d.Ctx, equal)
			if j > 2 {
				same = slices.EqualFunc(slices.Delete(slices.Clone(got.d.Ctx), j-3, j-2), slices.Delete(slices.Clone(want.d.Ctx), j-3, j-2), equal)
			}
			if j != 0 && !same || j != 1 && !equal(got.d.T, want.d.T) || j != 2 && !equal(got.x, want.x) {
				t.Errorf("%s: a change to part %d is seen in another one: %s", q.name, j, short(got))
			}
		}
	}
}

// Within a term, too, each node is one of its own.
func TestNodesAreApart(t *testing.T) {
	part := con(2, vari(0), vari(0))
	twice := func() api.Term { return fam(3, part, part) }
	d, x, _ := general.General(list(twice()), pi(twice(), twice()), 0)
	for _, y := range append(d.Ctx, d.T) {
		y.Args[0].Args[0] = sort
		if !equal(y, fam(3, con(2, sort, vari(0)), con(2, vari(0), vari(0)))) {
			t.Errorf("a change to one node is seen in another one of %v", y)
		}
	}
	args := x.Args[0].Args
	args[0].Args = append(args[0].Args, sort)
	args[0].Head = 9
	if !equal(x, lam(hole(0, vari(9, sort), vari(0)))) {
		t.Errorf("a change to one node is seen in another one of %v", x)
	}
	if !equal(part, con(2, vari(0), vari(0))) {
		t.Errorf("a change to an answer is seen in %v", part)
	}
}

// Two answers share nothing, and what is put behind one is in none.
func TestAnswersAreApart(t *testing.T) {
	for i, q := range given() {
		first, second := q.ask(), q.ask()
		for _, l := range first.parts() {
			_ = append(l, con(77), con(78))
			scribble(l)
		}
		third := q.ask()
		if want := given()[i].want; !second.equal(want) || !third.equal(want) {
			t.Errorf("%s: a change to one answer is seen in another one", q.name)
		}
	}
}

// behindAll is what withRoom puts behind each list.
func behindAll() []api.Term { return list(node(88, 88), node(99, 99, sort)) }

// withRoom is a list, each one below which has room behind it, and what is there.
func withRoom(l []api.Term) []api.Term {
	out := make([]api.Term, 0, len(l)+2)
	for _, t := range l {
		out = append(out, node(t.Kind, t.Head, withRoom(t.Args)...))
	}
	copy(out[len(l):cap(out)], behindAll())
	return out
}

// roomy tells whether each list still has what withRoom put behind it.
func roomy(l []api.Term) bool {
	return slices.EqualFunc(l[len(l):cap(l)], behindAll(), equal) && !slices.ContainsFunc(l, func(t api.Term) bool { return !roomy(t.Args) })
}

func TestNothingGivenIsChanged(t *testing.T) {
	for _, q := range given() {
		ctx, a := withRoom(q.ctx), withRoom(list(q.a))
		for n := range len(ctx) + 1 {
			general.General(ctx[:n], a[0], q.no)
			got, _, _ := general.General(ctx, a[0], q.no)
			_ = append(got.Ctx, con(77), con(78))
			if !slices.EqualFunc(ctx, q.ctx, equal) || !equal(a[0], q.a) {
				t.Errorf("%s: what was given was changed", q.name)
			}
			if !roomy(ctx) || !roomy(a) {
				t.Errorf("%s: what lies behind a given list was changed", q.name)
			}
		}
		if d, x, e := general.General(ctx, a[0], q.no); !q.want.equal(told{d, x, e}) {
			t.Errorf("%s: what lies behind a given list is seen in %s, %s", q.name, short(d), short(x))
		}
	}
}

// R5: nothing hangs on what was asked before, nor on other calls at the same time.
func TestTheSameEachTime(t *testing.T) {
	for range 20 {
		for _, q := range given() {
			hold(t, q.name, q.ctx, q.a, q.no, q.want)
		}
	}
	all := given()
	done := make(chan bool)
	for range 8 {
		go func() {
			same := true
			for _, q := range all {
				same = same && q.ask().equal(q.want)
			}
			done <- same
		}()
	}
	for range 8 {
		if !<-done {
			t.Error("not as alone")
		}
	}
}
