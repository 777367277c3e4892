package sign_test

import (
	"slices"
	"testing"

	"amanuensis/api"
	"amanuensis/sign"
	"amanuensis/term"
)

// all are many small terms that may be, of Pis on both sides.
func all() []api.Term {
	leaves := list(sort, fam(0), fam(1, con(2)), fam(2), con(0), vari(0), hole(1, vari(0)), lam(fam(1)))
	l := slices.Clone(leaves)
	for range 2 {
		for _, b := range slices.Clone(l) {
			for _, a := range leaves {
				l = append(l, pi(a, b), pi(pi(a, leaves[1]), b))
			}
		}
	}
	return l
}

// plainly is the chapter's words written out, the other way round: what the rest is split into, with one thing ahead.
func plainly(t api.Term) ([]api.Term, api.Term) {
	if t.Kind != api.Pi || len(t.Args) != 2 {
		return nil, t
	}
	l, r := plainly(t.Args[1])
	return append(list(t.Args[0]), l...), r
}

func TestAgainstThePlainWords(t *testing.T) {
	for _, x := range all() {
		asked, end := plainly(x)
		hold(t, "plainly", x, asked, end)
		if got := sign.Kind(x); got != (end.Kind == api.Sort) {
			t.Fatalf("%v: Kind %v", x, got)
		}
		want := -1
		if end.Kind == api.Fam {
			want = end.Head
		}
		if got := sign.Family(x); got != want {
			t.Fatalf("%v: Family %d, not %d", x, got, want)
		}
	}
}

// P9.3

func TestWhatIsSplitIsThePisOfIt(t *testing.T) {
	for _, x := range all() {
		if !term.May(x) {
			t.Fatalf("%v may not be", x)
		}
		l, r := sign.Split(x)
		if back := pis(l, r); !equal(back, x) {
			t.Fatalf("%v is split into %v and %v, which are %v", x, l, r, back)
		}
		if l, again := sign.Split(r); len(l) != 0 || !equal(again, r) {
			t.Fatalf("%v comes to %v, which comes to %v", x, r, again)
		}
	}
}

// declared are those terms that a declaration may come to.
func declared() []api.Decl {
	var sig []api.Decl
	for _, x := range all() {
		if _, r := plainly(x); r.Kind == api.Sort || r.Kind == api.Fam {
			sig = append(sig, api.Decl{T: x})
		}
	}
	return sig
}

func TestADeclarationIsAFamilyOrAConstantOfOne(t *testing.T) {
	for _, sig := range [][]api.Decl{system(), declared()} {
		of := make([]int, len(sig))
		for family := -1; family < len(sig); family++ {
			for _, i := range sign.Constants(sig, family) {
				of[i]++
				if got := sign.Family(sig[i].T); got != family {
					t.Fatalf("%v: a constant of %d, with the family %d", sig[i].T, family, got)
				}
			}
		}
		for i, d := range sig {
			want := 1
			if sign.Kind(d.T) {
				want = 0
			}
			if of[i] != want {
				t.Fatalf("%v: a constant of %d families, not %d", d.T, of[i], want)
			}
			if (want == 0) != (sign.Family(d.T) < 0) {
				t.Fatalf("%v is both, or neither", d.T)
			}
		}
	}
}

// What comes to a Sort is a constant of no family, and what comes to a Fam of that one alone, whatever stands beside it.
func TestOneDeclarationAlone(t *testing.T) {
	sig := declared()
	if len(sig) < 1000 {
		t.Fatalf("%d declarations alone", len(sig))
	}
	for _, d := range sig {
		_, r := plainly(d.T)
		for family := -2; family < 5; family++ {
			var want []int
			if r.Kind == api.Fam && r.Head == family {
				want = ints(1)
			}
			holdConstants(t, "between others", types(fam(9), d.T, sort), family, want)
		}
	}
}
