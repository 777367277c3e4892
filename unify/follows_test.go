package unify_test

import (
	"slices"
	"testing"

	"amanuensis/api"
	"amanuensis/match"
	"amanuensis/meta"
	"amanuensis/subst"
	"amanuensis/unify"
)

// The chapter's words, one by one: what the package answers is held against them.

// plain is what metas are so far, and how many nodes were reduced. An error leaves it by a panic.
type plain struct {
	b     []api.Bind
	size  []int
	nodes int
}

// met is the error that something is left with.
func met(do func()) (e api.Errno) {
	defer func() {
		if left := recover(); left != nil {
			e = left.(api.Errno)
		}
	}()
	do()
	return api.OK
}

func must[A any](a A, e api.Errno) A {
	if e != api.OK {
		panic(e)
	}
	return a
}

func (w *plain) count() {
	if w.nodes++; w.nodes > api.MaxWork {
		panic(api.ErrLimit)
	}
}

func (w *plain) reduced(t api.Term, n int) api.Term {
	w.count()
	for t.Kind == api.Meta && t.Head < len(w.b) && w.b[t.Head].Is {
		t = must(subst.Apply(w.b[t.Head].T, api.Subst{L: t.Args, Shift: n}))
		w.count()
	}
	return t
}

func below(t api.Term, i, n int) int {
	if i == len(t.Args)-1 && (t.Kind == api.Pi || t.Kind == api.Lam) {
		return n + 1
	}
	return n
}

func (w *plain) resolved(t api.Term, n int) api.Term {
	t = w.reduced(t, n)
	out := node(t.Kind, t.Head)
	for i, a := range t.Args {
		out.Args = append(out.Args, w.resolved(a, below(t, i, n)))
	}
	return out
}

func within(t api.Term, is func(api.Term) bool) bool {
	return is(t) || slices.ContainsFunc(t.Args, func(a api.Term) bool { return within(a, is) })
}

func nodes(t api.Term) int {
	n := 1
	for _, a := range t.Args {
		n += nodes(a)
	}
	return n
}

func deep(t api.Term) int {
	n := 0
	for _, a := range t.Args {
		n = max(n, deep(a))
	}
	return n + 1
}

func isMeta(t api.Term) bool { return t.Kind == api.Meta }

func (w *plain) solve(u, t api.Term, n int) {
	if u.Head >= len(w.b) || len(u.Args) != w.size[u.Head] {
		panic(api.ErrScope)
	}
	t = w.resolved(t, n)
	at := map[int]int{}
	for i, a := range u.Args {
		if a = w.resolved(a, n); a.Kind == api.Var && len(a.Args) == 0 && a.Head < n {
			at[a.Head] = len(u.Args) - 1 - i
		}
	}
	// What is no such variable is not in at, and what is there twice is so once.
	if len(at) < len(u.Args) || within(t, func(x api.Term) bool { return isMeta(x) && x.Head == u.Head }) {
		panic(api.ErrOutside)
	}
	if n > mostEntries || nodes(t) > api.MaxSize || deep(t) > api.MaxDepth {
		panic(api.ErrLimit)
	}
	told, is := renamed(t, at, n, 0)
	if !is && within(t, isMeta) {
		panic(api.ErrOutside)
	}
	if !is {
		panic(api.ErrClash)
	}
	w.b[u.Head] = api.Bind{Is: true, T: told}
}

// renamed is a term whose entries are those of at; false, if one is not there.
func renamed(t api.Term, at map[int]int, n, binders int) (api.Term, bool) {
	head := t.Head
	if free := t.Head - binders; t.Kind == api.Var && free >= n {
		head = free - n + len(at) + binders
	} else if t.Kind == api.Var && free >= 0 {
		to, is := at[free]
		if !is {
			return api.Term{}, false
		}
		head = to + binders
	}
	out := node(t.Kind, head)
	for i, a := range t.Args {
		arg, is := renamed(a, at, n, below(t, i, binders))
		if !is {
			return api.Term{}, false
		}
		out.Args = append(out.Args, arg)
	}
	return out, true
}

func (w *plain) unify(a, c api.Term, n int) {
	a = w.reduced(a, n)
	c = w.reduced(c, n)
	switch {
	case isMeta(a) && isMeta(c) && a.Head == c.Head:
		a = w.resolved(a, n)
		if c = w.resolved(c, n); !equal(a, c) {
			panic(api.ErrOutside)
		}
		return
	case isMeta(a):
		e := met(func() { w.solve(a, c, n) })
		if e == api.ErrOutside && isMeta(c) {
			w.solve(c, a, n)
		} else if e != api.OK {
			panic(e)
		}
		return
	case isMeta(c):
		w.solve(c, a, n)
		return
	case a.Kind != c.Kind || a.Head != c.Head || len(a.Args) != len(c.Args):
		panic(api.ErrClash)
	}
	outside := false
	for i := range a.Args {
		e := met(func() { w.unify(a.Args[i], c.Args[i], below(a, i, n)) })
		outside = outside || e == api.ErrOutside
		if e != api.OK && e != api.ErrOutside {
			panic(e)
		}
	}
	if outside {
		panic(api.ErrOutside)
	}
}

func (w *plain) all(a ask) {
	w.b, w.size = make([]api.Bind, len(a.size)), a.size
	w.unify(a.a, a.c, a.n)
	for i, x := range w.b {
		if x.Is {
			w.b[i].T = w.resolved(x.T, a.size[i])
		}
	}
}

// holdPlainly holds what is answered against the plain words, and P8.3 where it is OK.
func holdPlainly(t *testing.T, a ask) ([]api.Bind, api.Errno) {
	t.Helper()
	var w plain
	want := met(func() { w.all(a) })
	if want != api.OK {
		w.b = nil
	}
	got, e := a.unify()
	if e != want || !slices.EqualFunc(got, w.b, equalBind) {
		t.Fatalf("%v: %v, %v, not %v, %v", a, got, e, w.b, want)
	}
	if e == api.OK {
		holdFilled(t, a, got)
	}
	return got, e
}

// P8.3

// inOrder tells whether each meta is there, and has as many Args as its context has entries.
func (a ask) inOrder() bool {
	return !within(con(0, a.a, a.c), func(m api.Term) bool {
		return isMeta(m) && (m.Head >= len(a.size) || len(m.Args) != a.size[m.Head])
	})
}

// holdFilled holds that both are the same, filled with Full, where their metas are in order, and they may be filled; and that what is told has no meta that is something.
func holdFilled(t *testing.T, a ask, told []api.Bind) {
	t.Helper()
	full := unify.Full(told, a.size)
	one, e := meta.Fill(a.a, full, a.n)
	other, f := meta.Fill(a.c, full, a.n)
	if a.inOrder() && e == api.OK && f == api.OK && !equal(one, other) {
		t.Fatalf("%v: by %v %v and %v", a, told, one, other)
	}
	for i, x := range told {
		if within(x.T, func(m api.Term) bool { return isMeta(m) && m.Head < len(told) && told[m.Head].Is }) {
			t.Fatalf("%v: %d is told to be %v, which is not resolved", a, i, x.T)
		}
	}
}

// dice are numbers that look like chance, and are the same each time.
type dice uint64

func (d *dice) roll(n int) int {
	*d = *d*6364136223846793005 + 1442695040888963407
	return int(uint64(*d)>>33) % n
}

// term is a term in a context of so many entries, with metas; some variables are of the context around.
func (d *dice) term(depth, n int, size []int) api.Term {
	kind := d.roll(12)
	switch {
	case kind < 2 && len(size) > 0:
		return d.hole(n, size)
	case depth == 0 || kind < 4:
		return list(con(1), vari(d.roll(n+2)), vari(d.roll(n+1)), sort, con(2), fam(0))[d.roll(6)]
	case kind < 6:
		return lam(d.term(depth-1, n+1, size))
	case kind == 6:
		return pi(d.term(depth-1, n, size), d.term(depth-1, n+1, size))
	}
	t := list(fam(0), con(d.roll(3)), con(1), vari(d.roll(n+1)))[d.roll(4)]
	for range d.roll(4) {
		t.Args = append(t.Args, d.term(depth-1, n, size))
	}
	return t
}

// hole is a meta with as many Args as it has entries: variables, each another one, where there are as many, and seldom others.
func (d *dice) hole(n int, size []int) api.Term {
	head := d.roll(len(size))
	return hole(head, d.args(n, size[head], size)...)
}

func (d *dice) args(n, many int, size []int) []api.Term {
	var l []api.Term
	for _, i := range d.shuffled(n) {
		if len(l) < many {
			l = append(l, vari(i))
		}
	}
	for len(l) < many || many > 0 && d.roll(12) == 0 {
		l = append(l[:min(len(l), many-1)], d.term(d.roll(2), n, size[:d.roll(len(size)+1)]))
	}
	return l
}

func (d *dice) shuffled(n int) []int {
	l := make([]int, n)
	for i := range l {
		j := d.roll(i + 1)
		l[i], l[j] = l[j], i
	}
	return l
}

// other is a term that may be the same as this one: parts of it have become metas, and seldom something else.
func (d *dice) other(t api.Term, n int, size []int) api.Term {
	switch d.roll(8) {
	case 0, 1:
		return d.hole(n, size)
	case 2:
		return d.strange(t, n, size)
	}
	if isMeta(t) {
		return t
	}
	out := node(t.Kind, t.Head)
	for i, a := range t.Args {
		out.Args = append(out.Args, d.other(a, below(t, i, n), size))
	}
	return out
}

// strange is what seldom stands in a term.
func (d *dice) strange(t api.Term, n int, size []int) api.Term {
	switch d.roll(12) {
	case 0:
		return hole(d.roll(len(size)+1), d.term(1, n, size))
	case 1:
		return hole(len(size))
	case 2, 3:
		return d.term(1, n, size)
	}
	return t
}

func (d *dice) sizes() []int {
	size := make([]int, 1+d.roll(4))
	for i := range size {
		size[i] = d.roll(4)
	}
	return size
}

func (d *dice) ask(depth int) ask {
	n, size := d.roll(4), d.sizes()
	a := d.several(depth, n, size)
	return ask{a, d.other(a, n, size), n, size}
}

// several are terms, of which one stands twice at times.
func (d *dice) several(depth, n int, size []int) api.Term {
	t := con(7)
	for range 1 + d.roll(4) {
		t.Args = append(t.Args, d.term(depth, n, size))
	}
	if d.roll(2) == 0 {
		t.Args = append(t.Args, t.Args[0])
	}
	return t
}

func TestTermsByDicePlainly(t *testing.T) {
	d := dice(1)
	seen := map[api.Errno]int{}
	told, several := 0, 0
	for range 200000 {
		a := d.ask(1 + d.roll(3))
		got, e := holdPlainly(t, a)
		seen[e]++
		n := 0
		for _, x := range got {
			if x.Is {
				n++
			}
		}
		told += n
		if n > 1 {
			several++
		}
	}
	if seen[api.OK] < 50000 || seen[api.ErrClash] < 20000 || seen[api.ErrScope] < 1000 || seen[api.ErrOutside] < 20000 || seen[api.ErrType] < 5 || told < 20000 || several < 2000 {
		t.Errorf("met by number: %v, %d told, %d times several", seen, told, several)
	}
}

// solved are two terms that some terms make the same.
type solved struct {
	ask
	theta []api.Term
}

// solvable are two terms, both filled with theta the same: metas of the first half are in both, those of the second one stand for parts.
func (d *dice) solvable(depth int) (solved, bool) {
	n, size := d.roll(4), append(d.sizes(), d.roll(3), d.roll(4), d.roll(3))
	half := len(size) - 3
	s := solved{theta: make([]api.Term, len(size))}
	for i := range half {
		s.theta[i] = d.term(d.roll(3), size[i], nil)
	}
	a := d.several(depth, n, size[:half])
	if _, e := meta.Fill(a, s.theta, n); e != api.OK {
		return solved{}, false
	}
	s.ask = ask{n: n, size: size}
	s.a, s.c = d.shown(a, n, &s), d.shown(a, n, &s)
	one, e := meta.Fill(s.a, s.theta, n)
	other, f := meta.Fill(s.c, s.theta, n)
	return s, e == api.OK && f == api.OK && equal(one, other)
}

// shown is a term by other metas, or filled, in part.
func (d *dice) shown(t api.Term, n int, s *solved) api.Term {
	switch d.roll(6) {
	case 0:
		if filled, e := meta.Fill(t, s.theta, n); e == api.OK {
			return filled
		}
	case 1:
		return d.named(t, n, s)
	}
	if isMeta(t) {
		return t
	}
	out := node(t.Kind, t.Head)
	for i, a := range t.Args {
		out.Args = append(out.Args, d.shown(a, below(t, i, n), s))
	}
	return out
}

// named is a term by one of the last three metas, if that is nothing yet, and may be it.
func (d *dice) named(t api.Term, n int, s *solved) api.Term {
	head := len(s.size) - 1 - d.roll(3)
	args := d.args(n, s.size[head], nil)
	at := map[int]int{}
	for i, a := range args {
		at[a.Head] = len(args) - 1 - i
	}
	filled, e := meta.Fill(t, s.theta, n)
	if s.theta[head].Kind != api.Sort || len(at) < len(args) || within(node(api.Const, 0, args...), func(a api.Term) bool { return a.Kind != api.Var && a.Kind != api.Const }) || e != api.OK {
		return t
	}
	told, is := renamed(filled, at, n, 0)
	if !is {
		return t
	}
	s.theta[head] = told
	return hole(head, args...)
}

// What something makes the same is no clash; and what is told is no more than that: filled with the same it is the same.
func TestWhatCanBeTheSameIsNoClash(t *testing.T) {
	d := dice(2)
	seen := map[api.Errno]int{}
	told := 0
	for range 100000 {
		s, is := d.solvable(1 + d.roll(3))
		if !is {
			continue
		}
		got, e := holdPlainly(t, s.ask)
		if seen[e]++; e == api.ErrClash {
			t.Fatalf("%v: a clash, but %v makes them the same", s.ask, s.theta)
		}
		for i, x := range got {
			if !x.Is {
				continue
			}
			told++
			filled, e := meta.Fill(x.T, s.theta, s.size[i])
			if e != api.OK || !equal(filled, s.theta[i]) {
				t.Fatalf("%v: %d is %v, which is %v, %v by %v", s.ask, i, x.T, filled, e, s.theta)
			}
		}
	}
	if seen[api.OK] < 50000 || seen[api.ErrOutside] < 5000 || told < 30000 {
		t.Errorf("met by number: %v, %d told", seen, told)
	}
}

// pattern is a term that may be this one, with metas that are patterns, and have no metas in them.
func (d *dice) pattern(t api.Term, n int, size []int) api.Term {
	if head := d.roll(len(size)); d.roll(4) == 0 && size[head] <= n {
		var l []api.Term
		for _, i := range d.shuffled(n)[:size[head]] {
			l = append(l, vari(i))
		}
		return hole(head, l...)
	}
	out := node(t.Kind, t.Head)
	if d.roll(40) == 0 {
		out.Head++
	}
	for i, a := range t.Args {
		out.Args = append(out.Args, d.pattern(a, below(t, i, n), size))
	}
	// Where Args are the same the pattern's may be the same as well.
	if len(out.Args) > 1 && equal(t.Args[0], t.Args[1]) && out.Kind != api.Pi {
		out.Args[1] = out.Args[0]
	}
	return out
}

// Of a pattern and a term without metas it is as match has it.
func TestAsMatchHasIt(t *testing.T) {
	d := dice(3)
	seen := map[api.Errno]int{}
	for range 100000 {
		n, size := d.roll(4), d.sizes()
		x := d.several(1+d.roll(3), n, nil)
		p := d.pattern(x, n, size)
		want, e := match.Match(p, x, n, make([]api.Bind, len(size)), make([]bool, len(size)), nil)
		if p.Kind == api.Sort && p.Head > 0 || e == api.ErrArg {
			continue
		}
		seen[e]++
		for name, a := range map[string]ask{"a pattern and a term": {p, x, n, size}, "a term and a pattern": {x, p, n, size}} {
			if got, f := a.unify(); e != f || !slices.EqualFunc(got, want, equalBind) {
				t.Fatalf("%s: %v: %v, %v, but match has it %v, %v", name, a, got, f, want, e)
			}
		}
	}
	if seen[api.OK] < 50000 || seen[api.ErrClash] < 20000 {
		t.Errorf("met by number: %v", seen)
	}
}

// Whether both are the same hangs not on which one is handed in first, where only one of two has metas.
func TestTurned(t *testing.T) {
	d := dice(4)
	seen := map[api.Errno]int{}
	for range 50000 {
		n, size := d.roll(4), d.sizes()
		x := d.several(1+d.roll(3), n, nil)
		a := ask{x, d.other(x, n, size), n, size}
		got, e := holdPlainly(t, a)
		turned, f := a.turned().unify()
		if seen[e]++; e != f || !slices.EqualFunc(got, turned, equalBind) {
			t.Fatalf("%v: %v, %v, turned %v, %v", a, got, e, turned, f)
		}
	}
	if seen[api.OK] < 20000 || seen[api.ErrClash] < 5000 || seen[api.ErrOutside] < 2000 {
		t.Errorf("met by number: %v", seen)
	}
}

// Great terms, too, are as the plain words have them: metas that are twice what the next one is, as far as that goes.
func TestGreatTermsPlainly(t *testing.T) {
	seen := map[api.Errno]int{}
	for many := 1; many <= 13; many += 2 {
		for _, nodes := range []int{0, 2, 6, 11} {
			var l []pair
			for i := range many {
				l = append(l, pair{hole(i), con(1, hole(i+1), hole(i+1))})
			}
			l = append(l, pair{hole(many), wide(1 + nodes*nodes)})
			for range 2 {
				for _, more := range [][]pair{nil, {{hole(0), hole(0)}}, {{con(1), con(2)}}, {{hole(0), con(2)}}} {
					_, e := holdPlainly(t, all(0, make([]int, many+1), append(slices.Clone(l), more...)...))
					seen[e]++
				}
				slices.Reverse(l)
			}
		}
	}
	if seen[api.OK] < 50 || seen[api.ErrLimit] < 50 || seen[api.ErrClash] < 50 {
		t.Errorf("met by number: %v", seen)
	}
}
