package unify_test

import (
	"slices"
	"testing"

	"amanuensis/api"
	"amanuensis/unify"
)

// R3

func copied(t api.Term) api.Term {
	l := slices.Clone(t.Args)
	for i := range l {
		l[i] = copied(l[i])
	}
	return node(t.Kind, t.Head, l...)
}

func copiedBinds(b []api.Bind) []api.Bind {
	b = slices.Clone(b)
	for i := range b {
		b[i].T = copied(b[i].T)
	}
	return b
}

func copiedAsk(a ask) ask { return ask{copied(a.a), copied(a.c), a.n, slices.Clone(a.size)} }

func equalAsk(a, b ask) bool {
	return equal(a.a, b.a) && equal(a.c, b.c) && a.n == b.n && slices.Equal(a.size, b.size)
}

// scribble changes each node, and what lies behind each list's end.
func scribble(l []api.Term) {
	l = l[:cap(l)]
	for i := range l {
		scribble(l[i].Args)
		l[i] = node(l[i].Kind+1, l[i].Head+1, sort)
	}
}

func scribbleBinds(b []api.Bind) {
	b = b[:cap(b)]
	for i := range b {
		scribble(b[i].T.Args)
		b[i] = api.Bind{Is: !b[i].Is, T: fam(77)}
	}
}

func scribbleAsk(a ask) {
	scribble([]api.Term{a.a, a.c})
	for i := range a.size[:cap(a.size)] {
		a.size[:cap(a.size)][i] += 3
	}
}

// part is a term of the context around, with a meta: by is how many entries there are ahead of it.
func part(by int) api.Term { return con(1, vari(by), lam(hole(3, vari(by+1), vari(0)))) }

// given is something to ask, made anew each time: of metas that become something, once and by others, and of ones that stay nothing.
func given() ask {
	return all(3, sizes(0, 1, 1, 2, 2),
		pair{hole(0), con(8, part(3), hole(0+3, part(3), part(3)))},
		pair{con(9, vari(1), part(3)), hole(1, vari(1))},
		pair{lam(hole(2, vari(0))), lam(con(7, hole(1, vari(0)), hole(1, vari(0))))},
		pair{part(3), part(3)},
		pair{hole(4, part(3), part(3)), hole(4, part(3), part(3))},
	)
}

func wanted() []api.Bind {
	one := con(9, vari(0), part(1))
	return binds(is(con(8, part(0), hole(3, part(0), part(0)))), is(one), is(con(7, one, one)), non, non)
}

func filled() []api.Term {
	var l []api.Term
	for _, x := range wanted()[:3] {
		l = append(l, x.T)
	}
	return append(l, hole(3, varis(1, 0)...), hole(4, varis(1, 0)...))
}

func TestNothingIsShared(t *testing.T) {
	a := given()
	hold(t, "given", a, wanted()...)
	got, _ := a.unify()
	l := unify.Full(got, a.size)
	if !slices.EqualFunc(l, filled(), equal) {
		t.Errorf("%v, not %v", l, filled())
	}
	scribble(l)
	if !slices.EqualFunc(got, wanted(), equalBind) || !equalAsk(a, given()) {
		t.Error("a change to what Full answered is seen in what it was given")
	}
	l = unify.Full(got, a.size)
	scribbleBinds(got)
	if !slices.EqualFunc(l, filled(), equal) {
		t.Error("a change to what Full was given is seen in what it answered")
	}
	if !equalAsk(a, given()) {
		t.Error("a change to what was answered is seen in what was given")
	}
	got, _ = a.unify()
	scribbleAsk(a)
	if !slices.EqualFunc(got, wanted(), equalBind) || !slices.EqualFunc(l, filled(), equal) {
		t.Error("a change to what was given is seen in what was answered")
	}
}

// change changes one node's Head by its place in the order of writing, and tells how many places are left.
func change(l []api.Term, place int) int {
	for i := range l {
		if place == 0 {
			l[i].Head += 1000
		}
		place = change(l[i].Args, place-1)
	}
	return place
}

// differ is how many Heads of two lists of one shape differ.
func differ(a, b []api.Term) int {
	n := 0
	for i := range a {
		n += differ(a[i].Args, b[i].Args)
		if a[i].Head != b[i].Head {
			n++
		}
	}
	return n
}

// No two lists of one answer share anything, though one list is given twice: a change to one node is seen in no other.
func TestNoTwoListsAreShared(t *testing.T) {
	one := con(1, con(2, vari(4)), lam(vari(0, con(3))))
	twice := all(0, sizes(0, 0, 0, 0, 2), pair{hole(0), one}, pair{hole(1), hole(0)}, pair{hole(2), con(5, hole(0), one, hole(1))}, pair{hole(3), hole(3)})
	told := func(b []api.Bind) []api.Term {
		var l []api.Term
		for _, x := range b {
			l = append(l, x.T)
		}
		return l
	}
	answers := func() [][]api.Term {
		got, e := twice.unify()
		if e != api.OK || !got[1].Is || !got[2].Is {
			t.Fatal(got, e)
		}
		full := unify.Full(append(binds(non, is(one), is(one), non), is(con(1, one, one))), sizes(3, 0, 0, 3))
		return [][]api.Term{told(got), unify.Full(got, twice.size), full}
	}
	for i, was := range answers() {
		for place := range -change(was, -1) - 1 {
			now := answers()[i]
			change(now, place)
			if n := differ(was, now); n != 1 {
				t.Fatalf("answer %d, node %d: a change is seen %d times", i, place, n)
			}
		}
	}
}

func grow(l []api.Term) {
	_ = append(l, con(77), con(78))
	for _, a := range l {
		grow(a.Args)
	}
}

// A list that is answered can grow without a change to another one.
func TestListsDoNotGrowIntoOthers(t *testing.T) {
	a := given()
	got, _ := a.unify()
	l := unify.Full(got, a.size)
	grow(l)
	_ = append(got, is(con(77)))
	for _, x := range got {
		grow(x.T.Args)
	}
	if !slices.EqualFunc(l, filled(), equal) || !slices.EqualFunc(got, wanted(), equalBind) || !equalAsk(a, given()) {
		t.Error("a list grew into another one")
	}
}

func TestRoomBehindAList(t *testing.T) {
	args, size, b := make([]api.Term, 1, 8), make([]int, 2, 8), make([]api.Bind, 2, 8)
	args[0], size[0] = vari(0), 1
	for _, x := range list(hole(0, args...), con(0, args...), lam(hole(0, args...)), hole(0), hole(1)) {
		for _, y := range list(con(0, args...), hole(0, args...), lam(con(0, args...)), hole(1)) {
			unify.Unify(x, y, 3, size)
			unify.Unify(con(1, x, x), con(1, y, y), 3, size)
		}
	}
	unify.Full(b, size)
	for i := range args[1:8] {
		if args[:8][i+1].Args != nil || args[:8][i+1].Kind != 0 {
			t.Error("what lies behind given Args was changed")
		}
	}
	for i := range size[2:8] {
		if size[:8][i+2] != 0 || b[:8][i+2].Is {
			t.Error("what lies behind a given list was changed")
		}
	}
	if b[0].Is || size[0] != 1 || size[1] != 0 || args[0].Kind != api.Var {
		t.Error("what was given was changed")
	}
}

// Whatever is answered, an error too, what was given stays, and the same is answered again.
func TestNothingGivenIsChanged(t *testing.T) {
	d := dice(5)
	for range 20000 {
		a := d.ask(1 + d.roll(3))
		was := copiedAsk(a)
		got, e := a.unify()
		kept := copiedBinds(got)
		unify.Full(got, a.size)
		if !equalAsk(a, was) || !slices.EqualFunc(got, kept, equalBind) {
			t.Fatalf("%v was %v", a, was)
		}
		if again, f := a.unify(); e != f || !slices.EqualFunc(got, again, equalBind) {
			t.Fatalf("%v: %v, %v, and again %v, %v", a, got, e, again, f)
		}
	}
}

// R5: nothing hangs on what was asked before.
func TestTheSameEachTime(t *testing.T) {
	for range 1000 {
		hold(t, "each time", given(), wanted()...)
		hold(t, "another one", ask{con(0, hole(0), hole(1)), con(0, con(1), con(2)), 0, sizes(0, 0)}, is(con(1)), is(con(2)))
		fail(t, "a clash behind what was told", ask{con(0, hole(0), con(1)), con(0, con(5), con(2)), 0, sizes(0)}, api.ErrClash)
		fail(t, "what is outside of patterns", ask{hole(0), con(1, hole(0)), 0, sizes(0)}, api.ErrOutside)
		fail(t, "a wrong one", ask{con(-1), con(1), 0, sizes(0)}, api.ErrArg)
	}
	for range 20 {
		great := all(0, sizes(0), append(spent(t, api.MaxWork-2-wideOnes), pairs()...)...)
		if _, e := great.unify(); e != api.OK {
			t.Error("as many nodes as may be, each time:", e)
		}
	}
}

// Calls at the same time do not meet.
func TestCallsAtTheSameTime(t *testing.T) {
	a := given()
	done := make(chan bool)
	for range 8 {
		go func() {
			got, e := a.unify()
			done <- e == api.OK && slices.EqualFunc(got, wanted(), equalBind) && slices.EqualFunc(unify.Full(got, a.size), filled(), equal)
		}()
	}
	for range 8 {
		if !<-done {
			t.Error("not as alone")
		}
	}
}
