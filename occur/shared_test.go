package occur_test

import (
	"slices"
	"testing"

	"amanuensis/api"
	"amanuensis/occur"
)

// R3

func equal(a, b api.Term) bool {
	return a.Kind == b.Kind && a.Head == b.Head && slices.EqualFunc(a.Args, b.Args, equal)
}

// given is a term and a list, made anew each time, of which there is something to tell.
func given() (api.Term, []api.Term) {
	x := pi(con(1, vari(4), vari(2)), lam(fam(0, hole(3, vari(1), vari(0)), vari(6, vari(5)), hole(1))))
	return x, varis(3, 0, 2)
}

// answers are what all calls answer of these; what is true is 1.
func answers(x api.Term, l []api.Term) [][]int {
	heads, _ := occur.Pattern(l, 4)
	out := [][]int{occur.Vars(x), occur.Metas(x), heads, nil}
	if occur.Patterns(x, 3) {
		out[3] = append(out[3], 1)
	}
	return out
}

func equalAll(a, b [][]int) bool {
	return slices.EqualFunc(a, b, func(a, b []int) bool { return slices.Equal(a, b) })
}

func wanted() [][]int { return [][]int{ints(2, 3, 4), ints(1, 3), ints(3, 0, 2), ints(1)} }

// spoil changes each number of an answer, and what lies behind each list's end.
func spoil(l [][]int) {
	for _, a := range l {
		a = a[:cap(a)]
		for i := range a {
			a[i] += 1000
		}
	}
}

// scribble changes each node below, and what lies behind each list's end.
func scribble(l []api.Term) {
	l = l[:cap(l)]
	for i := range l {
		scribble(l[i].Args)
		l[i] = node(l[i].Kind+1, l[i].Head+1, sort)
	}
}

func TestNothingIsShared(t *testing.T) {
	x, l := given()
	got := answers(x, l)
	if !equalAll(got, wanted()) {
		t.Fatalf("%v", got)
	}
	spoil(got)
	wasX, wasL := given()
	if !equal(x, wasX) || !slices.EqualFunc(l, wasL, equal) {
		t.Error("a change to what was answered is seen in what was given")
	}
	got = answers(x, l)
	if !equalAll(got, wanted()) {
		t.Error("a change to what was answered is seen in what is answered behind it")
	}
	scribble(list(x))
	scribble(l)
	if !equalAll(got, wanted()) {
		t.Error("a change to what was given is seen in what was answered")
	}
}

// Two answers of one thing are two lists, also of many numbers, and of none.
func TestAnswersShareNothing(t *testing.T) {
	for _, l := range append(heads(300), nil) {
		x := con(0, append(varis(l...), hole(0))...)
		for i := range l {
			x.Args = append(x.Args, hole(i))
		}
		first, _ := occur.Pattern(varis(l...), 300)
		vars, metas := occur.Vars(x), occur.Metas(x)
		spoil([][]int{first, vars, metas})
		if again := occur.Vars(x); !slices.Equal(again, rising(len(l))) {
			t.Errorf("variables of %d: %v", len(l), again)
		}
		if again := occur.Metas(x); !slices.Equal(again, rising(max(len(l), 1))) {
			t.Errorf("metas of %d: %v", len(l), again)
		}
		holdPattern(t, "again", varis(l...), 300, l, true)
	}
}

func TestRoomBehindAList(t *testing.T) {
	room := make([]api.Term, 1, 8)
	room[0] = vari(0)
	occur.Vars(node(api.Const, 0, room...))
	occur.Metas(node(api.Meta, 0, room...))
	occur.Pattern(room, 3)
	occur.Patterns(node(api.Meta, 0, room...), 3)
	for _, y := range room[1:8] {
		if y.Kind != 0 || y.Head != 0 || y.Args != nil {
			t.Error("what lies behind a given list was changed")
		}
	}
}

func copied(t api.Term) api.Term {
	l := slices.Clone(t.Args)
	for i := range l {
		l[i] = copied(l[i])
	}
	return node(t.Kind, t.Head, l...)
}

func TestNothingGivenIsChanged(t *testing.T) {
	for _, x := range append(terms(), odd()...) {
		was := copied(x)
		occur.Vars(x)
		occur.Metas(x)
		occur.Pattern(x.Args, 3)
		occur.Patterns(x, 3)
		if !equal(x, was) {
			t.Fatalf("%v was %v", x, was)
		}
	}
}

// R5: nothing hangs on the order in which a map is gone through, nor on what was asked before.
func TestTheSameEachTime(t *testing.T) {
	x, l := given()
	for range 1000 {
		if got := answers(x, l); !equalAll(got, wanted()) {
			t.Fatalf("%v", got)
		}
		occur.Vars(con(0, varis(9, 8, 7)...))
		occur.Metas(con(0, hole(9), hole(8)))
		occur.Pattern(varis(9, 8), 10)
	}
}

// Calls at the same time do not meet.
func TestCallsAtTheSameTime(t *testing.T) {
	x, l := given()
	done := make(chan bool)
	for range 8 {
		go func() { done <- equalAll(answers(x, l), wanted()) }()
	}
	for range 8 {
		if !<-done {
			t.Error("not as alone")
		}
	}
}
