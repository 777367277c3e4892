package invert_test

import (
	"slices"
	"testing"

	"amanuensis/api"
	"amanuensis/invert"
	"amanuensis/meta"
	"amanuensis/occur"
	"amanuensis/shift"
	"amanuensis/term"
)

// terms are many small terms that may be, with variables bound and free, and metas.
func terms() []api.Term {
	leaves := []api.Term{sort, fam(1), con(2), hole(0), hole(1, vari(0)), hole(2, vari(2), vari(1)), vari(0), vari(1), vari(2), vari(4)}
	l := slices.Clone(leaves)
	for _, a := range leaves {
		l = append(l, lam(a), lams(2, a), con(0, a), fam(3, a), hole(1, a), vari(1, a, lam(a)), hole(5, vari(3), a))
		for _, b := range leaves {
			l = append(l, pi(a, b), lam(pi(a, con(1, b, a))), hole(3, a, b), con(1, lams(3, b), vari(0, a)), pi(lam(a), hole(4, b)))
		}
	}
	return append(l, lams(59, vari(61)), lams(58, con(0, varis(60, 58, 57, 0)...)), wide(3999, vari(2)))
}

// choices are all lists of numbers from 0 to below n, each another one.
func choices(n int) [][]int {
	all := [][]int{{}}
	for from := 0; from < len(all); from++ {
		for i := range n {
			if !slices.Contains(all[from], i) {
				all = append(all, append(slices.Clone(all[from]), i))
			}
		}
	}
	return all
}

// each holds all terms with all such lists in contexts of up to 4 entries.
func each(hold func(x api.Term, vars []int, n int)) {
	for n := range 5 {
		for _, vars := range choices(n) {
			for _, x := range terms() {
				hold(x, vars, n)
			}
		}
	}
}

// plainly is the chapter's words written out: what a term becomes below so many nodes that bind; false, if one is not in vars.
func plainly(t api.Term, vars []int, n, binders int) (api.Term, bool) {
	out := api.Term{Kind: t.Kind, Head: t.Head}
	if i := t.Head - binders; t.Kind == api.Var && i >= n {
		out.Head = i - n + len(vars) + binders
	} else if t.Kind == api.Var && i >= 0 {
		place := slices.Index(vars, i)
		if place < 0 {
			return api.Term{}, false
		}
		out.Head = len(vars) - 1 - place + binders
	}
	for i, a := range t.Args {
		inner := binders
		if i == len(t.Args)-1 && (t.Kind == api.Pi || t.Kind == api.Lam) {
			inner++
		}
		arg, is := plainly(a, vars, n, inner)
		if !is {
			return api.Term{}, false
		}
		out.Args = append(out.Args, arg)
	}
	return out, true
}

func TestAgainstThePlainWords(t *testing.T) {
	told, none := 0, 0
	each(func(x api.Term, vars []int, n int) {
		want, is := plainly(x, vars, n, 0)
		if is {
			told++
			hold(t, "plainly", x, vars, n, want)
		} else {
			none++
			fail(t, "plainly", x, vars, n, api.ErrNone)
		}
	})
	if told < 10000 || none < 10000 {
		t.Errorf("%d told, %d not", told, none)
	}
}

// P6.2

// of is a meta that is to be what was told, with these variables, filled in a context of n.
func of(told api.Term, vars []int, n int) (api.Term, api.Errno) {
	return meta.Fill(hole(0, varis(vars...)...), []api.Term{told}, n)
}

func TestTheMetaIsTheTerm(t *testing.T) {
	held := 0
	each(func(x api.Term, vars []int, n int) {
		told, e := invert.Invert(x, vars, n)
		if e != api.OK {
			return
		}
		held++
		if back, e := of(told, vars, n); e != api.OK || !equal(back, x) {
			t.Fatalf("%v, %v in %d, is told to be %v, which is %v, %v", x, vars, n, told, back, e)
		}
	})
	if held < 10000 {
		t.Errorf("%d held alone", held)
	}
}

func TestTheMetaIsTheTermOfManyEntries(t *testing.T) {
	for _, n := range []int{200, 201, 1000} {
		vars := make([]int, 200)
		for i := range vars {
			vars[i] = (i*7 + 3) % n
		}
		x := lam(con(0, varis(0, vars[0]+1, vars[199]+1, vars[77]+1, n+1, n+50)...))
		told, e := invert.Invert(x, vars, n)
		if e != api.OK {
			t.Fatalf("%d entries: %v", n, e)
		}
		if back, e := of(told, vars, n); e != api.OK || !equal(back, x) {
			t.Errorf("%d entries: %v is told, which is %v, %v", n, told, back, e)
		}
	}
}

func TestWhatIsToldIsNoGreater(t *testing.T) {
	each(func(x api.Term, vars []int, n int) {
		told, e := invert.Invert(x, vars, n)
		if e != api.OK {
			return
		}
		if term.Size(told) != term.Size(x) || term.Depth(told) != term.Depth(x) || !term.May(told) {
			t.Fatalf("%v, %v in %d, is told to be %v", x, vars, n, told)
		}
	})
}

// Two things would never make a meta the same term: of what any thing makes of it that thing alone is told.
func TestNoOtherWouldBe(t *testing.T) {
	for n := range 5 {
		for _, vars := range choices(n) {
			for _, other := range terms() {
				x, e := of(other, vars, n)
				if e != api.OK {
					t.Fatalf("%v, %v in %d: %v", other, vars, n, e)
				}
				hold(t, "what it is", x, vars, n, other)
			}
		}
	}
}

// Where there is none, none of the small terms would be.
func TestWhereThereIsNoneNothingWouldBe(t *testing.T) {
	small := terms()[:60]
	held := 0
	for n := range 5 {
		for _, vars := range choices(n) {
			var made []api.Term
			for _, told := range small {
				x, _ := of(told, vars, n)
				made = append(made, x)
			}
			for _, x := range small {
				if _, e := invert.Invert(x, vars, n); e != api.ErrNone {
					continue
				}
				held++
				if i := slices.IndexFunc(made, func(m api.Term) bool { return equal(m, x) }); i >= 0 {
					t.Fatalf("%v, %v in %d, is what %v is", x, vars, n, small[i])
				}
			}
		}
	}
	if held < 500 {
		t.Errorf("%d held alone", held)
	}
}

// There is none if and only if a free variable from 0 to below n is not in vars.
func TestNoneIsAsVarsAreFree(t *testing.T) {
	each(func(x api.Term, vars []int, n int) {
		want := api.OK
		for _, i := range occur.Vars(x) {
			if i < n && !slices.Contains(vars, i) {
				want = api.ErrNone
			}
		}
		if _, e := invert.Invert(x, vars, n); e != want {
			t.Fatalf("%v, %v in %d: %v, not %v", x, vars, n, e, want)
		}
	})
}

// All entries in order change nothing, and no entries are as Down.
func TestAllInOrderAndNoneAtAll(t *testing.T) {
	for _, x := range terms() {
		for _, n := range []int{0, 1, 2, 3, 5, 9, 1000} {
			hold(t, "all in order", x, falling(n), n, x)
			if down, is := shift.Down(x, n, 0); is {
				hold(t, "none at all", x, nil, n, down)
			} else {
				fail(t, "none at all", x, nil, n, api.ErrNone)
			}
		}
	}
}
