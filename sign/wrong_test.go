package sign_test

import (
	"math"
	"slices"
	"testing"

	"amanuensis/api"
	"amanuensis/sign"
)

// R1: what may not be is answered by the same words as all else, and nothing panics.

// deepest is as deep as a term may be nested.
const deepest = 1 << 16

// A Pi's own head is not asked for: it is a Pi of two all the same.
func TestAPiWithAHead(t *testing.T) {
	for _, head := range []int{1, -1, math.MaxInt, math.MinInt} {
		x := node(api.Pi, head, con(1), node(api.Pi, head, con(2), fam(3)))
		hold(t, "with a head", x, list(con(1), con(2)), fam(3))
		if sign.Kind(x) || sign.Family(x) != 3 {
			t.Errorf("%v: %v, %d", x, sign.Kind(x), sign.Family(x))
		}
		holdConstants(t, "with a head", types(x), 3, ints(0))
	}
}

// Terms of each Kind, also wrong ones, of up to four Args, with heads of all sorts, in each other.
func TestTermsOfAllSorts(t *testing.T) {
	kinds := []int{math.MinInt, -1, api.Sort, api.Pi, api.Fam, api.Lam, api.Var, api.Const, api.Meta, api.Kinds, math.MaxInt}
	l := list(api.Term{}, fam(0), sort)
	for _, kind := range kinds {
		for _, head := range []int{0, 1, -1, math.MaxInt, math.MinInt} {
			for args := range 5 {
				l = append(l, node(kind, head, slices.Repeat(list(sort), args)...))
			}
		}
	}
	for _, a := range slices.Clone(l) {
		for args := 1; args < 5; args++ {
			l = append(l, node(api.Pi, 0, slices.Repeat(list(a), args)...), node(api.Fam, 0, slices.Repeat(list(a), args)...))
		}
	}
	sig := types(l...)
	for i, x := range l {
		asked, end := plainly(x)
		hold(t, "of all sorts", x, asked, end)
		if got, want := sign.Kind(x), end.Kind == api.Sort; got != want {
			t.Fatalf("%v: Kind %v", x, got)
		}
		is := end.Kind == api.Fam
		if got := sign.Family(x); is && got != end.Head || !is && got != -1 {
			t.Fatalf("%v: Family %d", x, got)
		}
		for _, family := range []int{0, 1, math.MaxInt} {
			if got, want := slices.Contains(sign.Constants(sig, family), i), is && end.Head == family; got != want {
				t.Fatalf("%v: a constant of %d: %v", x, family, got)
			}
		}
	}
}

func TestADeepTerm(t *testing.T) {
	down, left, lams := fam(7), fam(7), fam(7)
	for range deepest {
		down, left, lams = pi(sort, down), pi(left, sort), lam(lams)
	}
	hold(t, "on the right", down, slices.Repeat(list(sort), deepest), fam(7))
	hold(t, "on the left", left, left.Args[:1], sort)
	hold(t, "Lams", lams, nil, lams)
	hold(t, "behind a Pi", pi(lams, lams), list(lams), lams)
	for i, want := range []struct {
		kind   bool
		family int
	}{{false, 7}, {true, -1}, {false, -1}} {
		if x := list(down, left, lams)[i]; sign.Kind(x) != want.kind || sign.Family(x) != want.family {
			t.Errorf("%d: %v, %d", i, sign.Kind(x), sign.Family(x))
		}
	}
	holdConstants(t, "deep", types(lams, down, left, down), 7, ints(1, 3))
}

func TestAGreatTerm(t *testing.T) {
	wide := fam(2, slices.Repeat(list(con(1, vari(0))), 100000)...)
	hold(t, "wide", wide, nil, wide)
	hold(t, "wide, behind Pis", pi(wide, pi(sort, wide)), list(wide, sort), wide)
	hold(t, "a Pi of many", node(api.Pi, 0, wide.Args...), nil, node(api.Pi, 0, wide.Args...))
	if sign.Kind(wide) || sign.Family(wide) != 2 {
		t.Errorf("%v, %d", sign.Kind(wide), sign.Family(wide))
	}
	holdConstants(t, "wide", types(wide, sort, pi(wide, wide)), 2, ints(0, 2))
}

// Where one thing stands in itself twice, and that again, a term has more nodes than could be gone to; what it comes to is told all the same.
func TestWhatNeedNotBeGoneTo(t *testing.T) {
	x, y, z := fam(4), sort, con(0)
	for range 200 {
		x, y, z = pi(x, x), pi(y, y), lam(con(0, z, z))
	}
	if sign.Kind(x) || sign.Family(x) != 4 || !sign.Kind(y) || sign.Family(y) != -1 {
		t.Error("what Pis within Pis come to")
	}
	f := fam(5, z, x)
	if sign.Kind(f) || sign.Family(f) != 5 || sign.Kind(z) || sign.Family(z) != -1 {
		t.Error("what has such Args")
	}
	holdConstants(t, "such terms", types(x, y, z, f, pi(z, x)), 4, ints(0, 4))
}
