package occur_test

import (
	"slices"
	"testing"

	"amanuensis/api"
	"amanuensis/occur"
	"amanuensis/shift"
	"amanuensis/term"
)

// terms are many small terms that may be, with variables bound and free, and metas.
func terms() []api.Term {
	leaves := []api.Term{sort, fam(1), con(2), hole(0), hole(1, vari(0)), hole(2, vari(2), vari(1)), vari(0), vari(1), vari(2), vari(4)}
	l := slices.Clone(leaves)
	for _, a := range leaves {
		l = append(l, lam(a), lams(2, a), con(0, a), fam(3, a), hole(1, a), vari(1, a, lam(a)), hole(5, vari(3), a))
		for _, b := range leaves {
			l = append(l, pi(a, b), lam(pi(a, con(1, b, a))), hole(3, a, b), con(1, lams(3, b), vari(0, a)), pi(lam(a), hole(4, b)))
		}
	}
	return l
}

// odd are terms that may not be, small ones.
func odd() []api.Term {
	var l []api.Term
	for kind := -1; kind <= api.Kinds; kind++ {
		for _, head := range []int{-2, -1, 0, 3} {
			l = append(l, node(kind, head), node(kind, head, vari(1)), node(kind, head, vari(0), hole(2, vari(1)), vari(5)), lam(node(kind, head, vari(0), vari(2))))
		}
	}
	return l
}

// place is a node, and how many nodes bind around it.
type place struct {
	n       api.Term
	binders int
}

// places are all nodes of a term, told apart from the package, for it is what they hold to account.
func places(t api.Term, binders int) []place {
	l := []place{{t, binders}}
	for i, a := range t.Args {
		inner := binders
		if i == len(t.Args)-1 && (t.Kind == api.Pi || t.Kind == api.Lam) {
			inner++
		}
		l = append(l, places(a, inner)...)
	}
	return l
}

// once are numbers, rising, each once.
func once(l []int) []int {
	slices.Sort(l)
	return slices.Compact(l)
}

// pattern is the chapter's words of Pattern, each held against all of the others.
func pattern(l []api.Term, below int) ([]int, bool) {
	var heads []int
	for i, x := range l {
		twice := slices.ContainsFunc(l[:i], func(y api.Term) bool { return y.Head == x.Head })
		if x.Kind != api.Var || len(x.Args) != 0 || x.Head < 0 || x.Head >= below || twice {
			return nil, false
		}
		heads = append(heads, x.Head)
	}
	return heads, true
}

// All of it, held against the chapter's words written out plainly.
func TestAgainstThePlainWords(t *testing.T) {
	for _, x := range append(terms(), odd()...) {
		var vars, metas []int
		for _, p := range places(x, 0) {
			if p.n.Kind == api.Var && p.n.Head >= p.binders {
				vars = append(vars, p.n.Head-p.binders)
			}
			if p.n.Kind == api.Meta {
				metas = append(metas, p.n.Head)
			}
		}
		if got := occur.Vars(x); !slices.Equal(got, once(vars)) {
			t.Fatalf("%v: variables %v, not %v", x, got, vars)
		}
		if got := occur.Metas(x); !slices.Equal(got, once(metas)) {
			t.Fatalf("%v: metas %v, not %v", x, got, metas)
		}
		for n := -2; n < 7; n++ {
			holdAll(t, x, n)
		}
	}
}

func holdAll(t *testing.T, x api.Term, n int) {
	t.Helper()
	all := true
	for _, p := range places(x, 0) {
		want, wantIs := pattern(p.n.Args, n)
		holdPattern(t, "Args", p.n.Args, n, want, wantIs)
		_, is := pattern(p.n.Args, n+p.binders)
		all = all && (is || p.n.Kind != api.Meta)
	}
	if got := occur.Patterns(x, n); got != all {
		t.Fatalf("%v, in %d entries: patterns %v, not %v", x, n, got, all)
	}
}

// Free variables are as shift counts them: one is in a term where there is no Down of the term from it by one.
func TestVarsAreAsShiftCountsThem(t *testing.T) {
	held := 0
	for _, x := range append(terms(), lams(59, con(0)), lams(58, con(0, vari(60), vari(58), vari(57)))) {
		if !term.May(x) {
			t.Fatalf("%v may not be", x)
		}
		vars := occur.Vars(x)
		for i := range 9 {
			_, is := shift.Down(x, 1, i)
			if is == slices.Contains(vars, i) {
				t.Fatalf("%v: variables %v, but Down from %d: %v", x, vars, i, is)
			}
		}
		held += len(vars)
		up := occur.Vars(shift.Up(x, 100, 2))
		for i, v := range vars {
			if v >= 2 {
				v += 100
			}
			if len(up) != len(vars) || up[i] != v {
				t.Fatalf("%v: variables %v, up %v", x, vars, up)
			}
		}
	}
	if held < 500 {
		t.Errorf("%d held alone", held)
	}
}

// P5.3

func TestWhatHasNoFreeVariablesIsScopedWithoutAny(t *testing.T) {
	const metas = 9
	closed := 0
	for _, x := range append(terms(), odd()...) {
		vars := occur.Vars(x)
		if len(vars) == 0 {
			closed++
		}
		if term.Scoped(x, 0, metas) != (len(vars) == 0) {
			t.Fatalf("%v: variables %v, scoped without any: %v", x, vars, len(vars) > 0)
		}
		// As many as the greatest one, and it, are enough; it is not.
		if len(vars) > 0 {
			last := vars[len(vars)-1]
			if !term.Scoped(x, last+1, metas) || term.Scoped(x, last, metas) {
				t.Fatalf("%v: variables %v, not scoped by these", x, vars)
			}
		}
	}
	if closed < 50 {
		t.Errorf("%d held alone", closed)
	}
}

func TestMetasAreAsScoped(t *testing.T) {
	for _, x := range terms() {
		metas := occur.Metas(x)
		if term.Scoped(x, 9, 0) != (len(metas) == 0) {
			t.Fatalf("%v: metas %v", x, metas)
		}
		if len(metas) > 0 {
			last := metas[len(metas)-1]
			if !term.Scoped(x, 9, last+1) || term.Scoped(x, 9, last) {
				t.Fatalf("%v: metas %v, not scoped by these", x, metas)
			}
		}
	}
}

func TestMetasOfAPatternHaveNoMetasInTheirArgs(t *testing.T) {
	held := 0
	for _, x := range append(terms(), odd()...) {
		for n := range 8 {
			if !occur.Patterns(x, n) {
				continue
			}
			for _, p := range places(x, 0) {
				if p.n.Kind != api.Meta {
					continue
				}
				held++
				if got := occur.Metas(con(0, p.n.Args...)); len(got) > 0 {
					t.Fatalf("%v is a pattern in %d, but has the metas %v within another one", x, n, got)
				}
			}
		}
	}
	if held < 100 {
		t.Errorf("%d held alone", held)
	}
}

// What is a pattern in a context is one in a greater one.
func TestPatternsWithMoreEntries(t *testing.T) {
	for _, x := range terms() {
		for n := range 8 {
			if occur.Patterns(x, n) && (!occur.Patterns(x, n+1) || !occur.Patterns(x, n+1000)) {
				t.Fatalf("%v is a pattern in %d, but not in more", x, n)
			}
		}
	}
}
