package sign_test

import (
	"slices"
	"testing"

	"amanuensis/api"
	"amanuensis/sign"
)

// R3

// given is a type, made anew each time, and what it is split into.
func given() (x api.Term, asked []api.Term, end api.Term) {
	x = pi(con(1, vari(4), lam(vari(0))), pi(pi(fam(2), fam(3, vari(0))), fam(0, hole(3, vari(1)), pi(sort, vari(5)))))
	asked = list(con(1, vari(4), lam(vari(0))), pi(fam(2), fam(3, vari(0))))
	return x, asked, fam(0, hole(3, vari(1)), pi(sort, vari(5)))
}

// scribble changes each node below, and what lies behind each list's end.
func scribble(l []api.Term) {
	l = l[:cap(l)]
	for i := range l {
		scribble(l[i].Args)
		l[i] = node(l[i].Kind+1, l[i].Head+1, sort)
	}
}

func copied(t api.Term) api.Term {
	l := slices.Clone(t.Args)
	for i := range l {
		l[i] = copied(l[i])
	}
	return node(t.Kind, t.Head, l...)
}

func TestNothingIsShared(t *testing.T) {
	x, asked, end := given()
	l, r := sign.Split(x)
	scribble(l)
	if !equal(r, end) {
		t.Error("a change to what is asked for is seen in what it comes to")
	}
	was, _, _ := given()
	if !equal(x, was) {
		t.Error("a change to what is asked for is seen in what was given")
	}
	scribble(list(r))
	if !equal(x, was) {
		t.Error("a change to what it comes to is seen in what was given")
	}
	hold(t, "behind what was changed", x, asked, end)
	l, r = sign.Split(x)
	scribble(list(x))
	if !slices.EqualFunc(l, asked, equal) || !equal(r, end) {
		t.Error("a change to what was given is seen in what was answered")
	}
}

// What is no Pi is no less the caller's own.
func TestWhatIsNotSplitIsNotShared(t *testing.T) {
	for name, x := range others() {
		was := copied(x)
		_, r := sign.Split(x)
		scribble(list(r))
		if !equal(x, was) {
			t.Errorf("%s: %v was %v", name, x, was)
		}
	}
}

// A term that stands in another one twice is answered twice.
func TestOneThingTwiceIsTwoThings(t *testing.T) {
	part := con(1, vari(0, vari(1)))
	l, r := sign.Split(pi(part, pi(part, part)))
	if len(l) != 2 {
		t.Fatal(l)
	}
	scribble(l[:1:1])
	if want := con(1, vari(0, vari(1))); !equal(l[1], want) || !equal(r, want) {
		t.Errorf("a change to one is seen in another one: %v, %v", l[1], r)
	}
}

func TestRoomBehindAList(t *testing.T) {
	room := make([]api.Term, 2, 8)
	x := api.Term{Kind: api.Pi, Args: room}
	decls := make([]api.Decl, 1, 4)
	decls[0].T = x
	sign.Split(x)
	sign.Kind(x)
	sign.Family(x)
	sign.Constants(decls, 0)
	for _, y := range room[2:8] {
		if y.Kind != 0 || y.Head != 0 || y.Args != nil {
			t.Error("what lies behind a given list was changed")
		}
	}
	for _, d := range decls[1:4] {
		if d.Name != "" || d.T.Kind != 0 || d.T.Args != nil {
			t.Error("what lies behind given declarations was changed")
		}
	}
}

func TestNothingGivenIsChanged(t *testing.T) {
	l := all()
	for _, x := range others() {
		l = append(l, behind(x)...)
	}
	sig, was := types(l...), types(l...)
	for i := range was {
		was[i].T = copied(was[i].T)
	}
	for _, x := range l {
		sign.Split(x)
		sign.Kind(x)
		sign.Family(x)
	}
	for family := -1; family < 4; family++ {
		sign.Constants(sig, family)
	}
	for i := range was {
		if sig[i].Name != was[i].Name || !equal(sig[i].T, was[i].T) || !equal(l[i], was[i].T) {
			t.Fatalf("%v was %v", sig[i], was[i])
		}
	}
}

// What Constants answers is the caller's own, each time.
func TestConstantsAreTheCallersOwn(t *testing.T) {
	sig := system()
	l := sign.Constants(sig, 0)
	for i := range l[:cap(l)] {
		l[:cap(l)][i] = 77
	}
	holdConstants(t, "behind what was changed", sig, 0, ints(1, 2, 9))
	l = sign.Constants(sig, 0)
	for i := range sig {
		sig[i].T = sort
	}
	if !slices.Equal(l, ints(1, 2, 9)) {
		t.Error("a change to what was given is seen in what was answered")
	}
}

// R5: nothing hangs on what was asked before.
func TestTheSameEachTime(t *testing.T) {
	x, asked, end := given()
	sig := system()
	for range 1000 {
		hold(t, "each time", x, asked, end)
		hold(t, "another one", fam(1), nil, fam(1))
		holdConstants(t, "each time", sig, 3, ints(4, 8))
		holdConstants(t, "others", sig[:5], 3, ints(4))
		if sign.Kind(x) || !sign.Kind(sort) || sign.Family(x) != 0 || sign.Family(sort) != -1 {
			t.Fatal("not as at first")
		}
	}
}

// Calls at the same time do not meet.
func TestCallsAtTheSameTime(t *testing.T) {
	x, asked, end := given()
	sig := system()
	done := make(chan bool)
	for range 8 {
		go func() {
			l, r := sign.Split(x)
			done <- slices.EqualFunc(l, asked, equal) && equal(r, end) && slices.Equal(sign.Constants(sig, 0), ints(1, 2, 9))
		}()
	}
	for range 8 {
		if !<-done {
			t.Error("not as alone")
		}
	}
}
