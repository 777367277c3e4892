package subst_test

import (
	"slices"
	"testing"

	"amanuensis/api"
	"amanuensis/subst"
)

// R3

// scribble changes each node below, and what lies behind each list's end.
func scribble(t api.Term) { scribbleList(t.Args) }

func scribbleList(l []api.Term) {
	l = l[:cap(l)]
	for i := range l {
		scribble(l[i])
		l[i] = node(l[i].Kind+1, l[i].Head+1, sort)
	}
}

// given is a term and a substitution, made anew each time, by which something moves, is reduced, stays, and comes twice.
func given() (api.Term, api.Subst) {
	part := func() api.Term { return con(1, vari(4), meta(2, vari(5, vari(1)))) }
	x := pi(fam(0, part(), vari(0)), lam(con(3, vari(1), vari(1), vari(2, part()), vari(0, vari(3)), vari(9, part()), con(4), lam(vari(2)))))
	return x, by(2, vari(3, part(), con(6)), lam(con(2, vari(0), vari(0), vari(1, con(7)))), fam(1, part()))
}

// answers are what all calls answer of these, with what is answered in each way.
func answers(x api.Term, s api.Subst) []api.Term {
	var l []api.Term
	keep := func(t api.Term, e api.Errno) {
		if e != api.OK {
			panic(e)
		}
		l = append(l, t)
	}
	keep(subst.Apply(x, s))
	keep(subst.Apply(x, subst.Same(3)))
	keep(subst.Apply(vari(0), s))
	keep(subst.Apply(vari(1, x), s))
	keep(subst.Apply(vari(2, x), s))
	keep(subst.Spine(x, nil))
	keep(subst.Spine(s.L[0], list(x, x)))
	keep(subst.Spine(s.L[1], list(x, x)))
	keep(subst.Spine(lam(vari(0)), list(x)))
	keep(subst.Spine(lam(x), list(s.L[2])))
	keep(subst.Spine(con(0), s.L))
	under := subst.Under(s)
	l = append(l, under.L...)
	return append(l, subst.Under(by(0, vari(-1, x))).L...)
}

func TestNothingIsShared(t *testing.T) {
	x, s := given()
	want := answers(given())
	for _, y := range answers(x, s) {
		scribble(y)
	}
	wasX, wasS := given()
	if !equal(x, wasX) || !equalSubst(s, wasS) {
		t.Error("a change to what was answered is seen in what was given")
	}
	got := answers(x, s)
	scribble(x)
	scribbleList(s.L)
	if !slices.EqualFunc(got, want, equal) {
		t.Error("a change to what was given is seen in what was answered")
	}
}

// No two lists of one answer share anything: a change to one node is seen in no other.
func TestNoTwoListsAreShared(t *testing.T) {
	x, s := given()
	for i, y := range answers(x, s) {
		for place := range size(y) - 1 {
			z := answers(given())[i]
			change(&z, place+1)
			if n := differ(y, z); n != 1 {
				t.Fatalf("answer %d, node %d: a change is seen %d times", i, place, n)
			}
		}
	}
}

func size(t api.Term) int {
	n := 1
	for _, a := range t.Args {
		n += size(a)
	}
	return n
}

// change changes one node's head by its place in the order of writing, and tells how many places are left.
func change(t *api.Term, place int) int {
	if place == 0 {
		t.Head += 1000
	}
	place--
	for i := range t.Args {
		place = change(&t.Args[i], place)
	}
	return place
}

// differ is how many heads of two terms of one shape differ.
func differ(a, b api.Term) int {
	n := 0
	if a.Head != b.Head {
		n = 1
	}
	for i := range a.Args {
		n += differ(a.Args[i], b.Args[i])
	}
	return n
}

// A list that is answered can grow without a change to another one.
func TestListsDoNotGrowIntoOthers(t *testing.T) {
	x, s := given()
	for i, y := range answers(x, s) {
		grow(y)
		if want := answers(given())[i]; !equal(y, want) {
			t.Errorf("answer %d: %v, not %v", i, y, want)
		}
	}
}

func grow(t api.Term) {
	_ = append(t.Args, con(77), con(78))
	for _, a := range t.Args {
		grow(a)
	}
}

func TestRoomBehindAList(t *testing.T) {
	room := make([]api.Term, 1, 8)
	room[0] = vari(0)
	subst.Spine(node(api.Const, 0, room...), list(con(1)))
	subst.Apply(vari(0, con(1)), by(0, node(api.Const, 0, room...)))
	subst.Under(api.Subst{L: room})
	subst.Apply(lam(vari(1)), api.Subst{L: room})
	for _, y := range room[1:8] {
		if !nought(y) {
			t.Error("what lies behind a given list was changed")
		}
	}
}

func TestSubstitutionsAreTheCallersOwn(t *testing.T) {
	a, b := subst.Same(3), subst.Same(3)
	scribbleList(a.L)
	if !equalSubst(b, subst.Same(3)) || !equalSubst(b, by(3, vari(2), vari(1), vari(0))) {
		t.Error("Same")
	}
	_, s := given()
	u := subst.Under(s)
	_ = append(u.L[:1], con(77))
	scribbleList(s.L)
	_, was := given()
	want := subst.Under(was)
	want.L[1] = con(77)
	if !equalSubst(u, want) {
		t.Error("Under")
	}
}

func TestNothingGivenIsChanged(t *testing.T) {
	for _, s := range substs() {
		for _, x := range terms() {
			wasX, wasS := copied(x), copiedSubst(s)
			subst.Apply(x, s)
			subst.Spine(x, s.L)
			for _, a := range s.L {
				subst.Spine(a, list(x, x))
			}
			subst.Under(s)
			if !equal(x, wasX) || !equalSubst(s, wasS) {
				t.Fatalf("%v by %v was %v by %v", x, s, wasX, wasS)
			}
		}
	}
}

// Calls at the same time do not meet.
func TestCallsAtTheSameTime(t *testing.T) {
	x, s := given()
	want := answers(given())
	done := make(chan bool)
	for range 8 {
		go func() { done <- slices.EqualFunc(answers(x, s), want, equal) }()
	}
	for range 8 {
		if !<-done {
			t.Error("not as alone")
		}
	}
}
