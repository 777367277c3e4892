package meta_test

import (
	"slices"
	"testing"

	"amanuensis/api"
	"amanuensis/meta"
)

// R3

func copied(t api.Term) api.Term { return node(t.Kind, t.Head, copiedList(t.Args)...) }

func copiedList(l []api.Term) []api.Term {
	l = slices.Clone(l)
	for i := range l {
		l[i] = copied(l[i])
	}
	return l
}

// given is a list and what its metas are, made anew each time, by which something is filled, reduced, dropped, stays, and comes twice.
func given() (l, theta []api.Term) {
	part := func() api.Term { return con(1, vari(4), fam(2, vari(5, vari(1)))) }
	l = list(
		pi(fam(0, part(), vari(0)), lam(con(3, hole(0, part(), vari(0)), part(), hole(0, part(), con(4))))),
		hole(1, lam(con(5, part(), vari(0))), hole(2)),
		con(6, hole(2), part(), hole(2), hole(3, part())),
		part(),
		hole(2),
		con(7),
	)
	theta = list(con(8, vari(0), vari(0), part(), vari(1)), vari(1, part()), fam(3, part(), hole(9, part())), con(9))
	return l, theta
}

// counts are how many entries there are where each of these stands.
func counts() []int { return []int{2, 0, 5, 1, 3, 0} }

// answers are what all calls answer of these.
func answers(l, theta []api.Term) [][]api.Term {
	var out [][]api.Term
	keep := func(l []api.Term, e api.Errno) {
		if e != api.OK {
			panic(e)
		}
		out = append(out, l)
	}
	for i, x := range l {
		t, e := meta.Fill(x, theta, i)
		keep(list(t), e)
	}
	keep(meta.Ctx(l, theta, 2))
	keep(meta.All(l, theta, counts()))
	// One term that stands at two places is not one list in what is answered.
	keep(meta.Ctx(list(l[2], l[2]), theta, 0))
	keep(meta.All(list(l[3], l[3]), theta, []int{4, 4}))
	return out
}

// scribble changes each node, and what lies behind each list's end.
func scribble(l []api.Term) {
	l = l[:cap(l)]
	for i := range l {
		scribble(l[i].Args)
		l[i] = node(l[i].Kind+1, l[i].Head+1, sort)
	}
}

func equalAll(a, b [][]api.Term) bool {
	return slices.EqualFunc(a, b, func(a, b []api.Term) bool { return slices.EqualFunc(a, b, equal) })
}

func TestNothingIsShared(t *testing.T) {
	l, theta := given()
	want := answers(given())
	for _, y := range answers(l, theta) {
		scribble(y)
	}
	wasL, wasTheta := given()
	if !equalAll([][]api.Term{l, theta}, [][]api.Term{wasL, wasTheta}) {
		t.Error("a change to what was answered is seen in what was given")
	}
	got := answers(l, theta)
	scribble(l)
	scribble(theta)
	if !equalAll(got, want) {
		t.Error("a change to what was given is seen in what was answered")
	}
}

// change changes one node's head by its place in the order of writing, and tells how many places are left.
func change(l []api.Term, place int) int {
	for i := range l {
		if place == 0 {
			l[i].Head += 1000
		}
		place = change(l[i].Args, place-1)
	}
	return place
}

// differ is how many heads of two lists of one shape differ.
func differ(a, b []api.Term) int {
	n := 0
	for i := range a {
		n += differ(a[i].Args, b[i].Args)
		if a[i].Head != b[i].Head {
			n++
		}
	}
	return n
}

// No two lists of one answer share anything: a change to one node is seen in no other.
func TestNoTwoListsAreShared(t *testing.T) {
	want := answers(given())
	for i, y := range want {
		for place := range -change(y, -1) - 1 {
			z := answers(given())[i]
			change(z, place)
			if n := differ(y, z); n != 1 {
				t.Fatalf("answer %d, node %d: a change is seen %d times", i, place, n)
			}
		}
	}
}

// A list that is answered can grow without a change to another one.
func TestListsDoNotGrowIntoOthers(t *testing.T) {
	want := answers(given())
	got := answers(given())
	for _, y := range got {
		grow(y)
	}
	if !equalAll(got, want) {
		t.Error("a list grew into another one")
	}
}

func grow(l []api.Term) {
	_ = append(l, con(77), con(78))
	for _, a := range l {
		grow(a.Args)
	}
}

func TestRoomBehindAList(t *testing.T) {
	room := make([]api.Term, 1, 8)
	room[0] = vari(0)
	meta.Fill(node(api.Meta, 0, room...), room, 3)
	meta.Fill(node(api.Meta, 0, room...), list(vari(0, con(1))), 3)
	meta.Ctx(room, room, 0)
	meta.All(room, room, []int{0})
	for _, y := range room[1:8] {
		if !nought(y) {
			t.Error("what lies behind a given list was changed")
		}
	}
}

func TestNothingGivenIsChanged(t *testing.T) {
	theta := list(con(2, vari(0), vari(2)), lam(vari(1, vari(0))), vari(0), sort)
	n := []int{4, 0, 2}
	for _, x := range terms() {
		l := list(x, lam(x), con(3, x, x))
		wasL, wasTheta := copiedList(l), copiedList(theta)
		meta.Fill(x, theta, 2)
		meta.Ctx(l, theta, 2)
		meta.All(l, theta, n)
		if !equalAll([][]api.Term{l, theta}, [][]api.Term{wasL, wasTheta}) || !slices.Equal(n, []int{4, 0, 2}) {
			t.Fatalf("%v by %v was %v by %v", l, theta, wasL, wasTheta)
		}
	}
}

// Calls at the same time do not meet.
func TestCallsAtTheSameTime(t *testing.T) {
	l, theta := given()
	want := answers(given())
	done := make(chan bool)
	for range 8 {
		go func() { done <- equalAll(answers(l, theta), want) }()
	}
	for range 8 {
		if !<-done {
			t.Error("not as alone")
		}
	}
}
