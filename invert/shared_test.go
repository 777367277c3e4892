package invert_test

import (
	"slices"
	"testing"

	"amanuensis/api"
	"amanuensis/invert"
)

// R3

// given is a term with variables, made anew each time, and what is told of it.
func given() (x api.Term, vars []int, n int, want api.Term) {
	x = pi(con(1, vari(4), vari(6)), lam(fam(0, hole(3, vari(1), vari(0)), vari(6, vari(5)), sort)))
	want = pi(con(1, vari(2), vari(3)), lam(fam(0, hole(3, vari(1), vari(0)), vari(4, vari(2)), sort)))
	return x, ints(4, 1, 3), 6, want
}

// scribble changes each node below, and what lies behind each list's end.
func scribble(l []api.Term) {
	l = l[:cap(l)]
	for i := range l {
		scribble(l[i].Args)
		l[i] = node(l[i].Kind+1, l[i].Head+1, sort)
	}
}

func copied(t api.Term) api.Term {
	l := slices.Clone(t.Args)
	for i := range l {
		l[i] = copied(l[i])
	}
	return node(t.Kind, t.Head, l...)
}

func TestNothingIsShared(t *testing.T) {
	x, vars, n, want := given()
	got, e := invert.Invert(x, vars, n)
	if e != api.OK || !equal(got, want) {
		t.Fatalf("%v, %v", got, e)
	}
	scribble([]api.Term{got})
	was, wasVars, _, _ := given()
	if !equal(x, was) || !slices.Equal(vars, wasVars) {
		t.Error("a change to what was answered is seen in what was given")
	}
	got, _ = invert.Invert(x, vars, n)
	if !equal(got, want) {
		t.Error("a change to what was answered is seen in what is answered behind it")
	}
	scribble([]api.Term{x})
	for i := range vars {
		vars[i] += 1000
	}
	if !equal(got, want) {
		t.Error("a change to what was given is seen in what was answered")
	}
}

// What stays as it was is no less the caller's own: terms without free variables, and all entries in order.
func TestWhatStaysIsNotShared(t *testing.T) {
	for _, x := range terms() {
		was := copied(x)
		got, e := invert.Invert(x, ints(4, 3, 2, 1, 0), 5)
		if e != api.OK || !equal(got, was) {
			t.Fatalf("%v: %v, %v", x, got, e)
		}
		scribble([]api.Term{got})
		if !equal(x, was) {
			t.Fatalf("%v was %v", x, was)
		}
	}
}

// A term that stands in another one twice is told twice.
func TestOneThingTwiceIsTwoThings(t *testing.T) {
	part := con(1, vari(0, vari(1)))
	got, e := invert.Invert(con(0, part, part), ints(0, 1), 2)
	if e != api.OK || len(got.Args) != 2 {
		t.Fatalf("%v, %v", got, e)
	}
	scribble(got.Args[:1:1])
	if !equal(got.Args[1], con(1, vari(1, vari(0)))) {
		t.Errorf("a change to one Arg is seen in the other one: %v", got.Args[1])
	}
}

func TestRoomBehindAList(t *testing.T) {
	room, vars := make([]api.Term, 1, 8), make([]int, 1, 8)
	invert.Invert(con(0, room...), vars, 3)
	invert.Invert(vari(0, room...), vars, 3)
	for _, y := range room[1:8] {
		if y.Kind != 0 || y.Head != 0 || y.Args != nil {
			t.Error("what lies behind a given list was changed")
		}
	}
	if !slices.Equal(vars[:8], make([]int, 8)) {
		t.Error("what lies behind given vars was changed")
	}
}

// Whatever is answered, an error too, what was given stays.
func TestNothingGivenIsChanged(t *testing.T) {
	l := terms()
	for _, x := range odd() {
		l = append(l, x)
	}
	for _, x := range l {
		for _, given := range [][]int{nil, {0}, {1, 0}, {2, 0, 4}, {0, 0}, {7}, {-1}} {
			was, vars := copied(x), slices.Clone(given)
			invert.Invert(x, vars, 5)
			if !equal(x, was) || !slices.Equal(vars, given) {
				t.Fatalf("%v, %v was %v, %v", x, vars, was, given)
			}
		}
	}
}

// R5: nothing hangs on what was asked before.
func TestTheSameEachTime(t *testing.T) {
	x, vars, n, want := given()
	for range 1000 {
		hold(t, "each time", x, vars, n, want)
		hold(t, "another one", vari(2), ints(0, 2), 3, vari(0))
		fail(t, "none", vari(1), ints(0, 2), 3, api.ErrNone)
		fail(t, "a wrong one", vari(1), ints(2, 2), 3, api.ErrArg)
	}
}

// Calls at the same time do not meet.
func TestCallsAtTheSameTime(t *testing.T) {
	x, vars, n, want := given()
	done := make(chan bool)
	for range 8 {
		go func() {
			got, e := invert.Invert(x, vars, n)
			done <- e == api.OK && equal(got, want)
		}()
	}
	for range 8 {
		if !<-done {
			t.Error("not as alone")
		}
	}
}
