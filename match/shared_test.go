package match_test

import (
	"slices"
	"testing"

	"amanuensis/api"
	"amanuensis/match"
)

// R3

func copied(t api.Term) api.Term {
	l := slices.Clone(t.Args)
	for i := range l {
		l[i] = copied(l[i])
	}
	return node(t.Kind, t.Head, l...)
}

func copiedAsk(a ask) ask {
	b := slices.Clone(a.b)
	for i := range b {
		b[i].T = copied(b[i].T)
	}
	return ask{copied(a.p), copied(a.t), a.n, b, slices.Clone(a.params), slices.Clone(a.rigid)}
}

func equalAsk(a, b ask) bool {
	return equal(a.p, b.p) && equal(a.t, b.t) && a.n == b.n && slices.EqualFunc(a.b, b.b, equalBind) && slices.Equal(a.params, b.params) && slices.Equal(a.rigid, b.rigid)
}

// scribble changes each node, and what lies behind each list's end.
func scribble(l []api.Term) {
	l = l[:cap(l)]
	for i := range l {
		scribble(l[i].Args)
		l[i] = node(l[i].Kind+1, l[i].Head+1, sort)
	}
}

func scribbleBinds(b []api.Bind) {
	b = b[:cap(b)]
	for i := range b {
		scribble(b[i].T.Args)
		b[i] = api.Bind{Is: !b[i].Is, T: fam(77)}
	}
}

// bare is a term of the context around, part one with a rigid Meta: by is how many entries there are ahead of it.
func bare(by int) api.Term { return con(4, vari(by), lam(vari(0, vari(by+1)))) }
func part(by int) api.Term { return con(1, bare(by), lam(hole(1, vari(by+1), vari(0)))) }

// given is something to ask, made anew each time: of metas that are something already, that become something, once and twice, and that stay nothing.
func given() ask {
	return ask{
		p:      con(0, hole(0, bare(3)), lam(hole(1, varis(0, 2)...)), hole(2), hole(2), hole(4), hole(1, varis(1, 0)...)),
		t:      con(0, con(8, bare(3), bare(3)), lam(con(3, vari(2), part(4), vari(0))), hole(3, part(3)), hole(3, part(3)), vari(5), con(3, vari(0), part(3), vari(1))),
		n:      3,
		b:      binds(is(con(8, vari(0), vari(0))), non, non, is(part(0)), non, api.Bind{T: part(0)}),
		params: []bool{false, false, true, false, true, true},
		rigid:  []bool{false, false, false, true},
	}
}

func wanted() []api.Bind {
	return binds(is(con(8, vari(0), vari(0))), is(con(3, vari(0), part(2), vari(1))), is(hole(3, part(0))), is(part(0)), is(vari(2)), non)
}

func TestNothingIsShared(t *testing.T) {
	a := given()
	hold(t, "given", a, wanted()...)
	got, _ := a.match()
	l, _ := match.Whole(got[:5])
	scribble(l)
	if !slices.EqualFunc(got, wanted(), equalBind) {
		t.Error("a change to what Whole answered is seen in what it was given")
	}
	l, _ = match.Whole(got[:5])
	scribbleBinds(got)
	for i, x := range wanted()[:5] {
		if !equal(l[i], x.T) {
			t.Error("a change to what Whole was given is seen in what it answered")
		}
	}
	if !equalAsk(a, given()) {
		t.Error("a change to what was answered is seen in what was given")
	}
	got, _ = a.match()
	scribble([]api.Term{a.p, a.t})
	scribbleBinds(a.b)
	for i := range a.params {
		a.params[i] = !a.params[i]
	}
	if !slices.EqualFunc(got, wanted(), equalBind) {
		t.Error("a change to what was given is seen in what was answered")
	}
}

// change changes one node's Head by its place in the order of writing, and tells how many places are left.
func change(l []api.Term, place int) int {
	for i := range l {
		if place == 0 {
			l[i].Head += 1000
		}
		place = change(l[i].Args, place-1)
	}
	return place
}

// differ is how many Heads of two lists of one shape differ.
func differ(a, b []api.Term) int {
	n := 0
	for i := range a {
		n += differ(a[i].Args, b[i].Args)
		if a[i].Head != b[i].Head {
			n++
		}
	}
	return n
}

// No two lists of one answer share anything, though one list is given twice: a change to one node is seen in no other.
func TestNoTwoListsAreShared(t *testing.T) {
	one := part(0)
	twice := ask{
		p: con(0, hole(0), hole(1), hole(0)), t: con(0, one, one, one), b: binds(non, non, is(one), is(one), is(con(1, one, one))),
	}
	answers := func() [][]api.Term {
		got, e := twice.match()
		l, whole := match.Whole(got)
		same, _ := match.Whole(binds(is(one), is(one), is(con(1, one, one))))
		if e != api.OK || !whole {
			t.Fatal(got, e)
		}
		var told []api.Term
		for _, x := range got {
			told = append(told, x.T)
		}
		return [][]api.Term{told, l, same}
	}
	for i, was := range answers() {
		for place := range -change(was, -1) - 1 {
			now := answers()[i]
			change(now, place)
			if n := differ(was, now); n != 1 {
				t.Fatalf("answer %d, node %d: a change is seen %d times", i, place, n)
			}
		}
	}
}

func grow(l []api.Term) {
	_ = append(l, con(77), con(78))
	for _, a := range l {
		grow(a.Args)
	}
}

// A list that is answered can grow without a change to another one.
func TestListsDoNotGrowIntoOthers(t *testing.T) {
	got, _ := given().match()
	l, _ := match.Whole(got[:5])
	grow(l)
	for _, x := range got {
		grow(x.T.Args)
	}
	for i, x := range wanted()[:5] {
		if !equal(l[i], x.T) || !equalBind(got[i], x) {
			t.Error("a list grew into another one")
		}
	}
}

func TestRoomBehindAList(t *testing.T) {
	args, b, params, rigid := make([]api.Term, 1, 8), make([]api.Bind, 1, 8), make([]bool, 1, 8), make([]bool, 1, 8)
	args[0] = vari(0)
	for _, p := range []api.Term{hole(0), hole(0, args...), con(0, args...), lam(hole(0, args...))} {
		match.Match(p, con(0, args...), 3, b, params, rigid)
		match.Match(p, lam(con(0, args...)), 3, b, params, rigid)
	}
	match.Whole(b)
	for i := range args[1:8] {
		if x := b[:8][i+1]; args[:8][i+1].Args != nil || args[:8][i+1].Kind != 0 || x.Is || params[:8][i+1] || rigid[:8][i+1] {
			t.Error("what lies behind a given list was changed")
		}
	}
	if b[0].Is {
		t.Error("what was given was changed")
	}
}

// Whatever is answered, an error too, what was given stays, and the same is answered again.
func TestNothingGivenIsChanged(t *testing.T) {
	d := dice(4)
	for range 20000 {
		a := d.ask(1 + d.roll(4))
		was := copiedAsk(a)
		got, e := a.match()
		match.Whole(a.b)
		if !equalAsk(a, was) {
			t.Fatalf("%v was %v", a, was)
		}
		if again, f := a.match(); e != f || !slices.EqualFunc(got, again, equalBind) {
			t.Fatalf("%v: %v, %v, and again %v, %v", a, got, e, again, f)
		}
	}
}

// R5: nothing hangs on what was asked before.
func TestTheSameEachTime(t *testing.T) {
	for range 1000 {
		hold(t, "each time", given(), wanted()...)
		hold(t, "another one", ask{p: con(0, hole(0), hole(1)), t: con(0, con(1), con(2)), b: binds(non, non)}, is(con(1)), is(con(2)))
		fail(t, "a clash behind what was told", ask{p: con(0, hole(0), con(1)), t: con(0, con(5), con(2)), b: binds(non)}, api.ErrClash)
		fail(t, "a wrong one", ask{p: con(-1), t: con(1), b: binds(non)}, api.ErrArg)
	}
}

// Calls at the same time do not meet.
func TestCallsAtTheSameTime(t *testing.T) {
	a := given()
	done := make(chan bool)
	for range 8 {
		go func() {
			got, e := a.match()
			done <- e == api.OK && slices.EqualFunc(got, wanted(), equalBind)
		}()
	}
	for range 8 {
		if !<-done {
			t.Error("not as alone")
		}
	}
}
