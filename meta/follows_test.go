package meta_test

import (
	"slices"
	"testing"

	"amanuensis/api"
	"amanuensis/meta"
	"amanuensis/subst"
	"amanuensis/term"
)

// terms are many small terms that may be, with variables and metas.
func terms() []api.Term {
	leaves := []api.Term{sort, fam(1), con(2), hole(0), hole(1), hole(2), vari(0), vari(1), vari(4)}
	l := slices.Clone(leaves)
	for _, a := range leaves {
		l = append(l, lam(a), lams(2, a), con(0, a), fam(3, a), hole(1, a), hole(3, a), vari(1, a, lam(a)), hole(2, lam(a), a))
		for _, b := range leaves {
			l = append(l, pi(a, b), lam(pi(a, con(1, b, a))), hole(0, a, b), hole(1, hole(0, a), lam(b)), lam(hole(2, pi(a, b))), con(1, lam(lam(b)), vari(0, a)))
		}
	}
	return l
}

func thetas() [][]api.Term {
	return [][]api.Term{
		nil,
		list(con(5), vari(0), vari(3, con(1)), sort),
		list(con(2, vari(0), vari(2)), lam(vari(1, vari(0))), vari(0), pi(vari(0), vari(1))),
		list(vari(0, con(1)), vari(1, vari(0)), lams(2, vari(2, vari(1), vari(0), vari(3)))),
		list(hole(3, vari(1)), lam(hole(0, vari(0))), fam(1, vari(0, vari(5)), vari(1)), hole(0)),
	}
}

// P4.3

func bare(t api.Term) bool {
	return t.Kind != api.Meta && !slices.ContainsFunc(t.Args, func(a api.Term) bool { return !bare(a) })
}

func TestWhatHasNoMetasIsAsItWas(t *testing.T) {
	held := 0
	all := append(terms(), wide(4000), deep(60), lams(59, vari(300)), lams(2, con(0, times(3990, vari(7))...)))
	for _, x := range all {
		if !bare(x) {
			continue
		}
		held++
		for _, theta := range append(thetas(), times(mostTerms, con(1))) {
			for _, n := range []int{0, 1, 5, mostEntries} {
				hold(t, "without metas", x, theta, n, x)
			}
		}
	}
	if held < 100 {
		t.Errorf("%d held alone", held)
	}
}

func TestAMetaWithAllOfItsContextIsWhatItIsToBe(t *testing.T) {
	to := append(terms(), wide(4000), deep(60), lams(59, vari(300)))
	for _, x := range to {
		for _, n := range []int{0, 1, 2, 5, 199, 200} {
			own := subst.Same(n).L
			hold(t, "all of its context", hole(0, own...), list(x), n, x)
			hold(t, "all of its context, another one", hole(2, own...), list(con(1), con(2), x), n, x)
		}
	}
}

// What is filled first with metas that stay, and then with these, is as if it were filled at once.
func TestMetasThatAreThemselves(t *testing.T) {
	entries := []int{2, 2, 2, 1}
	var same []api.Term
	for head, n := range entries {
		same = append(same, hole(head, subst.Same(n).L...))
	}
	held := 0
	for _, x := range terms() {
		if !wellApplied(x, entries) {
			continue
		}
		held++
		hold(t, "themselves", x, same, 6, x)
	}
	if held < 100 {
		t.Errorf("%d held alone", held)
	}
}

// wellApplied tells whether each meta has as many Args as its context has entries.
func wellApplied(t api.Term, entries []int) bool {
	if t.Kind == api.Meta && len(t.Args) != entries[t.Head] {
		return false
	}
	return !slices.ContainsFunc(t.Args, func(a api.Term) bool { return !wellApplied(a, entries) })
}

// The chapter's words, one by one: what the package answers is held against them.

func plainly(t api.Term, theta []api.Term, n int) (api.Term, api.Errno) {
	filled, e := plain(t, theta, n)
	if e == api.OK && !term.May(filled) {
		e = api.ErrLimit
	}
	return filled, e
}

func plain(t api.Term, theta []api.Term, n int) (api.Term, api.Errno) {
	var args []api.Term
	for i, a := range t.Args {
		there := n
		if i == len(t.Args)-1 && (t.Kind == api.Pi || t.Kind == api.Lam) {
			there++
		}
		arg, e := plain(a, theta, there)
		if e != api.OK {
			return api.Term{}, e
		}
		args = append(args, arg)
	}
	if t.Kind != api.Meta {
		return node(t.Kind, t.Head, args...), api.OK
	}
	if t.Head >= len(theta) {
		return api.Term{}, api.ErrScope
	}
	for _, a := range args {
		if !term.May(a) {
			return api.Term{}, api.ErrLimit
		}
	}
	return subst.Apply(theta[t.Head], api.Subst{L: args, Shift: n})
}

func holdPlainly(t *testing.T, x api.Term, theta []api.Term, n int) api.Errno {
	t.Helper()
	want, wantE := plainly(x, theta, n)
	got, e := meta.Fill(x, theta, n)
	holds(t, "plainly", got, e, want, wantE)
	if t.Failed() {
		t.Fatalf("%v by %v in %d", x, theta, n)
	}
	return wantE
}

func TestManyTermsPlainly(t *testing.T) {
	for _, theta := range thetas() {
		for _, x := range terms() {
			for n := range 4 {
				holdPlainly(t, x, theta, n)
			}
		}
	}
}

// dice are numbers that look like chance, and are the same each time.
type dice uint64

func (d *dice) roll(n int) int {
	*d = *d*6364136223846793005 + 1442695040888963407
	return int(uint64(*d)>>33) % n
}

func (d *dice) term(depth int) api.Term {
	kind := d.roll(10)
	switch {
	case depth == 0 || kind == 0:
		return list(con(1), vari(d.roll(5)), vari(d.roll(5)), sort, hole(d.roll(4)))[d.roll(5)]
	case kind < 3:
		return lam(d.term(depth - 1))
	case kind == 3:
		return pi(d.term(depth-1), d.term(depth-1))
	case kind < 6:
		return node(list(fam(0), con(0), vari(0))[d.roll(3)].Kind, d.roll(3), d.terms(depth-1)...)
	}
	return hole(d.roll(4), d.terms(depth-1)...)
}

func (d *dice) terms(depth int) []api.Term {
	var l []api.Term
	for range d.roll(4) {
		l = append(l, d.term(depth))
	}
	return l
}

func TestTermsByDicePlainly(t *testing.T) {
	d := dice(1)
	met := map[api.Errno]int{}
	for range 20000 {
		var theta []api.Term
		for range 3 + d.roll(2) {
			theta = append(theta, d.term(1+d.roll(5)))
		}
		// What is great, by its nodes, by its depth, and by its work.
		if d.roll(4) == 0 {
			theta[d.roll(3)] = list(wide(1500), deep(55), con(0, vari(0, vari(0)), vari(1, vari(1))))[d.roll(3)]
		}
		met[holdPlainly(t, d.term(6), theta, d.roll(5))]++
	}
	if met[api.OK] < 3000 || met[api.ErrScope] < 300 || met[api.ErrType] < 300 || met[api.ErrLimit] < 30 {
		t.Errorf("met by number: %v", met)
	}
}
