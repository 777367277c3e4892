package match_test

import (
	"slices"
	"testing"

	"amanuensis/api"
	"amanuensis/match"
	"amanuensis/meta"
)

// The chapter's words, one by one: what the package answers is held against them.

// plain is the pattern's metas as they become.
type plain struct {
	b             []api.Bind
	params, rigid []bool
}

func (w *plain) match(p, t api.Term, n int) api.Errno {
	if p.Kind == api.Meta && p.Head >= len(w.b) {
		return api.ErrScope
	}
	if p.Kind == api.Meta && w.b[p.Head].Is {
		return w.something(p, t, n)
	}
	if p.Kind == api.Meta {
		return w.nothing(p, t, n)
	}
	if p.Kind != t.Kind || p.Head != t.Head || len(p.Args) != len(t.Args) {
		return api.ErrClash
	}
	for i := range p.Args {
		there := n
		if i == len(p.Args)-1 && (p.Kind == api.Pi || p.Kind == api.Lam) {
			there++
		}
		if e := w.match(p.Args[i], t.Args[i], there); e != api.OK {
			return e
		}
	}
	return api.OK
}

// open tells whether a meta is nothing yet, or there is none, anywhere in these.
func (w *plain) open(l []api.Term) bool {
	return slices.ContainsFunc(l, func(a api.Term) bool {
		return a.Kind == api.Meta && (a.Head >= len(w.b) || !w.b[a.Head].Is) || w.open(a.Args)
	})
}

func (w *plain) something(p, t api.Term, n int) api.Errno {
	if w.open(p.Args) {
		return api.ErrOutside
	}
	var theta []api.Term
	for _, x := range w.b {
		theta = append(theta, x.T)
	}
	filled, e := meta.Fill(p, theta, n)
	if e == api.OK && !equal(filled, t) {
		e = api.ErrClash
	}
	return e
}

func (w *plain) nothing(p, t api.Term, n int) api.Errno {
	at := map[int]int{}
	for i, a := range p.Args {
		if _, twice := at[a.Head]; a.Kind != api.Var || len(a.Args) > 0 || a.Head >= n || twice {
			return api.ErrOutside
		}
		at[a.Head] = len(p.Args) - 1 - i
	}
	told, is := renamed(t, at, n, 0)
	alone := t.Kind == api.Var && len(t.Args) == 0 || t.Kind == api.Meta && t.Head < len(w.rigid) && w.rigid[t.Head]
	if !is || w.params[p.Head] && !alone {
		return api.ErrClash
	}
	w.b[p.Head] = api.Bind{Is: true, T: told}
	return api.OK
}

// renamed is a term whose entries are those of at; false, if one is not there.
func renamed(t api.Term, at map[int]int, n, binders int) (api.Term, bool) {
	head := t.Head
	if free := t.Head - binders; t.Kind == api.Var && free >= n {
		head = free - n + len(at) + binders
	} else if t.Kind == api.Var && free >= 0 {
		to, is := at[free]
		if !is {
			return api.Term{}, false
		}
		head = to + binders
	}
	var args []api.Term
	for i, a := range t.Args {
		inner := binders
		if i == len(t.Args)-1 && (t.Kind == api.Pi || t.Kind == api.Lam) {
			inner++
		}
		arg, is := renamed(a, at, n, inner)
		if !is {
			return api.Term{}, false
		}
		args = append(args, arg)
	}
	return node(t.Kind, head, args...), true
}

// holdPlainly holds what is answered against the plain words, and P7.3 where it is OK.
func holdPlainly(t *testing.T, a ask) ([]api.Bind, api.Errno) {
	t.Helper()
	w := plain{slices.Clone(a.b), a.params, a.rigid}
	want := w.match(a.p, a.t, a.n)
	if want != api.OK {
		w.b = nil
	}
	got, e := match.Match(a.p, a.t, a.n, a.b, a.params, a.rigid)
	if e != want || !slices.EqualFunc(got, w.b, equalBind) {
		t.Fatalf("%v: %v, %v, not %v, %v", a, got, e, w.b, want)
	}
	if e == api.OK {
		holdFilled(t, a, got)
	}
	return got, e
}

// P7.3

// holdFilled holds that the pattern is the term, filled with what all are; what is not in it is noughts.
func holdFilled(t *testing.T, a ask, told []api.Bind) {
	t.Helper()
	var theta []api.Term
	for _, x := range told {
		theta = append(theta, x.T)
	}
	if filled, e := meta.Fill(a.p, theta, a.n); e != api.OK || !equal(filled, a.t) {
		t.Fatalf("%v: is told to be %v, which is %v, %v", a, told, filled, e)
	}
	if l, whole := match.Whole(told); whole && !slices.EqualFunc(l, theta, equal) {
		t.Fatalf("%v: %v are whole, and %v", a, told, l)
	}
}

// What was told ahead stays, and what is matched once more tells the same.
func holdOnceMore(t *testing.T, a ask, told []api.Bind) {
	t.Helper()
	for i, x := range a.b {
		if x.Is && !equalBind(x, told[i]) {
			t.Fatalf("%v: %v has become %v", a, x, told[i])
		}
	}
	a.b = told
	hold(t, "once more", a, told...)
}

// dice are numbers that look like chance, and are the same each time.
type dice uint64

func (d *dice) roll(n int) int {
	*d = *d*6364136223846793005 + 1442695040888963407
	return int(uint64(*d)>>33) % n
}

// term is a term with rigid metas, in a context of so many entries; some variables are of the context around.
func (d *dice) term(depth, n int) api.Term {
	kind := d.roll(12)
	switch {
	case depth == 0 || kind < 2:
		return list(con(1), vari(d.roll(n+2)), vari(d.roll(n+1)), sort, hole(d.roll(4)), fam(0))[d.roll(6)]
	case kind < 4:
		return lam(d.term(depth-1, n+1))
	case kind == 4:
		return pi(d.term(depth-1, n), d.term(depth-1, n+1))
	}
	t := list(fam(0), con(d.roll(3)), con(1), vari(d.roll(n+1)), hole(2+d.roll(2)))[d.roll(5)]
	for range d.roll(4) {
		t.Args = append(t.Args, d.term(depth-1, n))
	}
	// What stands twice is what a meta that stands twice is.
	if len(t.Args) > 1 && d.roll(2) == 0 {
		t.Args[len(t.Args)-1] = t.Args[0]
	}
	return t
}

// choice are some of the variables of a context, each another one.
func (d *dice) choice(n int) []api.Term {
	var l []api.Term
	for _, i := range d.shuffled(n) {
		if d.roll(4) > 0 {
			l = append(l, vari(i))
		}
	}
	return l
}

func (d *dice) shuffled(n int) []int {
	l := make([]int, n)
	for i := range l {
		j := d.roll(i + 1)
		l[i], l[j] = l[j], i
	}
	return l
}

// patternOf is a pattern that the term may match: parts of it have become metas, and seldom something else.
func (d *dice) patternOf(t api.Term, n, metas int) api.Term {
	switch d.roll(9) {
	case 0, 1, 2:
		return hole(d.roll(metas), d.choice(n)...)
	case 3:
		return d.strange(n, metas)
	}
	out := node(t.Kind, t.Head)
	for i, a := range t.Args {
		there := n
		if i == len(t.Args)-1 && (t.Kind == api.Pi || t.Kind == api.Lam) {
			there++
		}
		out.Args = append(out.Args, d.patternOf(a, there, metas))
		if i > 0 && there == n && equal(a, t.Args[0]) {
			out.Args[i] = out.Args[0]
		}
	}
	// Metas of the term are none of the pattern's.
	if out.Kind == api.Meta {
		return hole(d.roll(metas), d.choice(n)...)
	}
	return out
}

// strange is what seldom stands in a pattern.
func (d *dice) strange(n, metas int) api.Term {
	switch d.roll(8) {
	case 0:
		return hole(d.roll(metas+1), d.term(1, n))
	case 1:
		return hole(d.roll(metas), vari(d.roll(n+1)), vari(d.roll(n+1)))
	case 2:
		return hole(d.roll(metas), hole(d.roll(metas+1)))
	case 3:
		return con(d.roll(3))
	case 4, 5:
		return hole(d.roll(metas), sort)
	}
	return hole(d.roll(metas))
}

func (d *dice) ask(depth int) ask {
	n, metas := d.roll(4), 1+d.roll(4)
	t := d.term(depth, n)
	a := ask{p: d.patternOf(t, n, metas), t: t, n: n, rigid: []bool{d.roll(2) == 0, d.roll(2) == 0, false, d.roll(2) == 0}}
	for range metas {
		x := non
		if d.roll(5) == 0 {
			x = is(list(d.term(2, 1), vari(0, con(1)))[d.roll(2)])
		}
		a.b = append(a.b, x)
		a.params = append(a.params, d.roll(6) == 0)
	}
	return a
}

func TestTermsByDicePlainly(t *testing.T) {
	d := dice(1)
	met, twice := map[api.Errno]int{}, 0
	for range 200000 {
		a := d.ask(1 + d.roll(4))
		told, e := holdPlainly(t, a)
		met[e]++
		if e != api.OK {
			continue
		}
		holdOnceMore(t, a, told)
		if !a.b[0].Is && stands(a.p, 0) > 1 {
			twice++
		}
	}
	if met[api.OK] < 30000 || met[api.ErrClash] < 30000 || met[api.ErrScope] < 1000 || met[api.ErrOutside] < 5000 || met[api.ErrType] < 300 || twice < 2000 {
		t.Errorf("met by number: %v, and %d with a meta twice", met, twice)
	}
}

// stands is how often a meta is in a term.
func stands(t api.Term, head int) int {
	n := 0
	if t.Kind == api.Meta && t.Head == head {
		n++
	}
	for _, a := range t.Args {
		n += stands(a, head)
	}
	return n
}

// What a pattern is filled with is told of it again, and of no clash; where it clashes nothing of these makes both the same.
func TestWhatAPatternIsFilledWithIsTold(t *testing.T) {
	d := dice(2)
	told, clash := 0, 0
	for range 50000 {
		a := d.ask(1 + d.roll(4))
		theta := make([]api.Term, len(a.b))
		for i := range theta {
			theta[i] = d.term(2, 2)
		}
		a.b, a.params = make([]api.Bind, len(a.b)), make([]bool, len(a.b))
		filled, e := meta.Fill(a.p, theta, a.n)
		if e != api.OK {
			continue
		}
		got, e := holdPlainly(t, a)
		if e == api.ErrClash {
			clash++
		}
		if e == api.ErrClash && equal(filled, a.t) {
			t.Fatalf("%v: a clash, but %v makes them the same", a, theta)
		}
		a.t = filled
		if got, e = holdPlainly(t, a); e == api.ErrClash {
			t.Fatalf("%v: a clash, but it is filled with %v", a, theta)
		}
		for i, x := range got {
			if x.Is && !equal(x.T, theta[i]) {
				t.Fatalf("%v: %d is told to be %v, not %v", a, i, x.T, theta[i])
			}
		}
		told += len(got)
	}
	if told < 100000 || clash < 5000 {
		t.Errorf("%d told, and %d clashes", told, clash)
	}
}

// entries are how many Args each of so many metas has in a pattern, where that is the same at each place.
func entries(t api.Term, of map[int]int) bool {
	if t.Kind == api.Meta {
		n, seen := of[t.Head]
		of[t.Head] = len(t.Args)
		return !seen || n == len(t.Args)
	}
	return !slices.ContainsFunc(t.Args, func(a api.Term) bool { return !entries(a, of) })
}

// What t is filled with ahead may be filled in behind.
func TestFilledAheadAndBehind(t *testing.T) {
	d := dice(3)
	held, changed := 0, 0
	for range 200000 {
		a := d.ask(1 + d.roll(4))
		a.b = make([]api.Bind, len(a.b))
		of := map[int]int{}
		told, e := match.Match(a.p, a.t, a.n, a.b, a.params, a.rigid)
		if e != api.OK || !entries(a.p, of) {
			continue
		}
		sigma := list(d.term(2, 0), d.term(2, 0), d.term(2, 2), d.term(2, 2))
		for i, alone := range a.rigid {
			// What stands for a variable alone becomes one.
			if alone {
				sigma[i] = list(vari(3+d.roll(3)), hole(i))[d.roll(2)]
			}
		}
		ahead := a
		if ahead.t, e = meta.Fill(a.t, sigma, a.n); e != api.OK {
			continue
		}
		held++
		if !equal(a.t, ahead.t) {
			changed++
		}
		holdBehind(t, ahead, told, sigma, of)
	}
	if held < 10000 || changed < 5000 {
		t.Errorf("%d held alone, %d of them changed", held, changed)
	}
}

func holdBehind(t *testing.T, ahead ask, told []api.Bind, sigma []api.Term, of map[int]int) {
	t.Helper()
	behind := slices.Clone(told)
	for i, x := range told {
		if !x.Is {
			continue
		}
		filled, e := meta.Fill(x.T, sigma, of[i])
		if e != api.OK {
			t.Fatalf("%v: %v by %v: %v", ahead, x.T, sigma, e)
		}
		behind[i].T = filled
	}
	hold(t, "filled ahead", ahead, behind...)
	if t.Failed() {
		t.FailNow()
	}
}

func TestFilledAheadAndBehindByHand(t *testing.T) {
	p := con(0, lam(hole(0, vari(0))), hole(0, con(1)), hole(1))
	a := ask{p: p, t: con(0, lam(hole(0, vari(0))), hole(0, con(1)), con(2, hole(1))), n: 2, b: binds(non, non)}
	hold(t, "not filled", a, is(hole(0, vari(0))), is(con(2, hole(1))))
	sigma := list(con(7, varis(0, 1)...), vari(0))
	var e api.Errno
	if a.t, e = meta.Fill(a.t, sigma, 2); e != api.OK {
		t.Fatal(e)
	}
	hold(t, "filled", a, is(con(7, varis(0, 1)...)), is(con(2, vari(0))))
}
