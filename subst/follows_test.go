package subst_test

import (
	"slices"
	"testing"

	"amanuensis/api"
	"amanuensis/shift"
	"amanuensis/subst"
	"amanuensis/term"
)

// terms are many small terms that may be, with variables bound and free.
func terms() []api.Term {
	leaves := []api.Term{sort, fam(1), con(2), meta(0), vari(0), vari(1), vari(2), vari(3), vari(7)}
	l := slices.Clone(leaves)
	for _, a := range leaves {
		l = append(l, lam(a), lam(lam(a)), con(0, a), fam(3, a), meta(1, a), vari(0, a), vari(1, a, lam(a)), lam(vari(1, a, vari(0))))
		for _, b := range leaves {
			l = append(l, pi(a, b), lam(pi(a, con(1, b, a))), vari(0, lam(a), b), vari(1, lam(lam(b)), vari(0, a)), lam(vari(1, vari(2, b), a)))
		}
	}
	return l
}

// P3.4

func TestUpAndThenReplacedIsAsItWas(t *testing.T) {
	for _, x := range terms() {
		for _, y := range []api.Term{con(5), vari(0), lam(vari(0, vari(0))), meta(0), sort, wide(3999)} {
			holdApply(t, "up by one", shift.Up(x, 1, 0), by(0, y), x)
			holdSpine(t, "up by one in a Lam", lam(shift.Up(x, 1, 0)), list(y), x)
		}
		holdApply(t, "up by two", shift.Up(x, 2, 0), by(0, con(5), lam(vari(0))), x)
	}
}

func TestSameChangesNothing(t *testing.T) {
	for _, x := range append(terms(), wide(3999), deep(60), lams(59, vari(300)), con(0, times(3999, vari(199))...)) {
		for _, n := range []int{-1, 0, 1, 2, 3, 4, 8, 199, 200, 201} {
			holdApply(t, "Same", x, subst.Same(n), x)
		}
		under := subst.Same(3)
		for range 5 {
			under = subst.Under(under)
		}
		holdApply(t, "Same, and Under", x, under, x)
	}
}

// both is what is, at once, one substitution and another one behind it; false where there is none.
func both(s, u api.Subst) (api.Subst, bool) {
	out := api.Subst{}
	for _, t := range s.L {
		t, e := subst.Apply(t, u)
		if e != api.OK {
			return api.Subst{}, false
		}
		out.L = append(out.L, t)
	}
	// What is behind L are the variables from Shift on: of these, the ones that the other one replaces are terms too.
	front := []api.Term{}
	for i := s.Shift; i < len(u.L); i++ {
		front = append([]api.Term{u.L[len(u.L)-1-i]}, front...)
	}
	out.L = append(front, out.L...)
	out.Shift = u.Shift + max(0, s.Shift-len(u.L))
	return out, true
}

func TestOneBehindTheOtherIsBothAtOnce(t *testing.T) {
	held := 0
	all := terms()
	for i, s := range substs() {
		for j, u := range substs() {
			at, is := both(s, u)
			if !is {
				continue
			}
			// One in five, others each time: all of them take long.
			for k := (i + 2*j) % 5; k < len(all); k += 5 {
				x := all[k]
				one, e := subst.Apply(x, s)
				if e != api.OK {
					continue
				}
				two, e := subst.Apply(one, u)
				once, f := subst.Apply(x, at)
				// What one of them drops, the other one may find to be of no type.
				if e != api.OK || f != api.OK {
					continue
				}
				held++
				if !equal(two, once) {
					t.Fatalf("%v by %v, then %v: %v, at once %v", x, s, u, two, once)
				}
			}
		}
	}
	if held < 10000 {
		t.Errorf("%d held alone", held)
	}
}

// What has something to reduce would be a node that is a Lam and has more than what is in it: such a term may not be.
func TestNothingIsLeftToReduce(t *testing.T) {
	for _, s := range substs() {
		for _, x := range terms() {
			if got, e := subst.Apply(x, s); e == api.OK && !term.May(got) {
				t.Fatalf("%v by %v: %v", x, s, got)
			}
			for _, a := range s.L {
				if got, e := subst.Spine(a, list(x, con(1), x)); e == api.OK && !term.May(got) {
					t.Fatalf("%v of %v: %v", a, x, got)
				}
			}
		}
	}
}

// The chapter's words, one by one: what the package answers is held against them.

type plain struct{ nodes int }

func (p *plain) apply(t api.Term, s api.Subst) (api.Term, api.Errno) {
	if p.nodes++; p.nodes > api.MaxWork {
		return api.Term{}, api.ErrLimit
	}
	var args []api.Term
	for i, a := range t.Args {
		inner := s
		if i == len(t.Args)-1 && (t.Kind == api.Pi || t.Kind == api.Lam) {
			inner = subst.Under(s)
		}
		a, e := p.apply(a, inner)
		if e != api.OK {
			return api.Term{}, e
		}
		args = append(args, a)
	}
	// A variable that is bound is mapped to itself: Under has it so.
	if t.Kind == api.Var && t.Head < len(s.L) {
		return p.spine(s.L[len(s.L)-1-t.Head], args)
	}
	if t.Kind == api.Var {
		return p.spine(vari(t.Head-len(s.L)+s.Shift), args)
	}
	return node(t.Kind, t.Head, args...), api.OK
}

func (p *plain) spine(t api.Term, args []api.Term) (api.Term, api.Errno) {
	if len(args) == 0 {
		return t, api.OK
	}
	switch t.Kind {
	case api.Lam:
		if !term.May(args[0]) {
			return api.Term{}, api.ErrLimit
		}
		in, e := p.apply(t.Args[0], by(0, args[0]))
		if e != api.OK {
			return api.Term{}, e
		}
		return p.spine(in, args[1:])
	case api.Var, api.Const, api.Fam:
		return node(t.Kind, t.Head, append(slices.Clone(t.Args), args...)...), api.OK
	}
	return api.Term{}, api.ErrType
}

func plainly(t api.Term, e api.Errno) (api.Term, api.Errno) {
	if e == api.OK && !term.May(t) {
		e = api.ErrLimit
	}
	return t, e
}

func holdPlainly(t *testing.T, x api.Term, s api.Subst) api.Errno {
	t.Helper()
	want, wantE := plainly((&plain{}).apply(x, s))
	got, e := subst.Apply(x, s)
	holds(t, "Apply, plainly", got, e, want, wantE)
	want, f := plainly((&plain{}).spine(x, s.L))
	got, e = subst.Spine(x, s.L)
	holds(t, "Spine, plainly", got, e, want, f)
	if t.Failed() {
		t.Fatalf("%v by %v", x, s)
	}
	return wantE
}

func TestManyTermsPlainly(t *testing.T) {
	for _, s := range substs() {
		for _, x := range terms() {
			holdPlainly(t, x, s)
		}
	}
}

// dice are numbers that look like chance, and are the same each time.
type dice uint64

func (d *dice) roll(n int) int {
	*d = *d*6364136223846793005 + 1442695040888963407
	return int(uint64(*d)>>33) % n
}

func (d *dice) term(depth int) api.Term {
	kind := d.roll(10)
	switch {
	case depth == 0 || kind < 2:
		return list(con(1), vari(d.roll(4)), vari(d.roll(4)), sort, meta(0))[d.roll(5)]
	case kind < 4:
		return lam(d.term(depth - 1))
	case kind == 4:
		return pi(d.term(depth-1), d.term(depth-1))
	case kind == 5:
		return node(list(fam(0), con(0), meta(0))[d.roll(3)].Kind, d.roll(3), d.terms(depth-1)...)
	}
	return vari(d.roll(4), d.terms(depth-1)...)
}

func (d *dice) terms(depth int) []api.Term {
	var l []api.Term
	for range d.roll(4) {
		l = append(l, d.term(depth))
	}
	return l
}

// lams is a term of Lams and variables, of which many never end, or become great.
func (d *dice) lams(depth int) api.Term {
	if depth == 0 {
		return vari(d.roll(3))
	}
	if d.roll(2) == 0 {
		return lam(d.lams(depth - 1))
	}
	var l []api.Term
	for range 1 + d.roll(2) {
		l = append(l, d.lams(depth-1))
	}
	return vari(d.roll(3), l...)
}

func TestTermsByDicePlainly(t *testing.T) {
	d := dice(1)
	met := map[api.Errno]int{}
	for i := range 10000 {
		of := d.term
		if i%2 == 0 {
			of = d.lams
		}
		s := by(d.roll(4))
		for range d.roll(4) {
			s.L = append(s.L, of(2+d.roll(3)))
		}
		met[holdPlainly(t, of(5), s)]++
	}
	if met[api.OK] < 1000 || met[api.ErrType] < 300 || met[api.ErrLimit] < 30 {
		t.Errorf("met by number: %v", met)
	}
}
