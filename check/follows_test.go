package check_test

import (
	"slices"
	"testing"

	"amanuensis/api"
	"amanuensis/meta"
	"amanuensis/shift"
	"amanuensis/sign"
	"amanuensis/subst"
)

// The chapter's words, one by one: what the package answers is held against them. An error leaves by a panic.

// met is the error that something is left with.
func met(do func()) (e api.Errno) {
	defer func() {
		if left := recover(); left != nil {
			e = left.(api.Errno)
		}
	}()
	do()
	return api.OK
}

func must(t api.Term, e api.Errno) api.Term {
	if e != api.OK {
		panic(e)
	}
	return t
}

func unless(is bool, e api.Errno) {
	if !is {
		panic(e)
	}
}

func (o over) plainKind(k api.Term) {
	switch k.Kind {
	case api.Sort:
	case api.Pi:
		o.plainType(k.Args[0])
		o.more(k.Args[0]).plainKind(k.Args[1])
	default:
		panic(api.ErrType)
	}
}

func (o over) plainType(a api.Term) {
	switch a.Kind {
	case api.Pi:
		o.plainType(a.Args[0])
		o.more(a.Args[0]).plainType(a.Args[1])
	case api.Fam:
		unless(a.Head < len(o.sig) && sign.Kind(o.sig[a.Head].T), api.ErrScope)
		unless(o.plainSpine(o.sig[a.Head].T, a.Args).Kind == api.Sort, api.ErrType)
	default:
		panic(api.ErrType)
	}
}

func (o over) plainSpine(t api.Term, args []api.Term) api.Term {
	if len(args) == 0 {
		return t
	}
	unless(t.Kind == api.Pi, api.ErrType)
	o.plainTerm(args[0], t.Args[0])
	return o.plainSpine(must(subst.Apply(t.Args[1], api.Subst{L: list(args[0])})), args[1:])
}

func (o over) plainTerm(m, a api.Term) {
	if m.Kind == api.Lam {
		unless(a.Kind == api.Pi, api.ErrType)
		o.more(a.Args[0]).plainTerm(m.Args[0], a.Args[1])
		return
	}
	unless(a.Kind == api.Fam, api.ErrType)
	unless(equal(o.plainComes(m), a), api.ErrType)
}

func (o over) plainComes(m api.Term) api.Term {
	n := len(o.ctx)
	switch m.Kind {
	case api.Var:
		unless(m.Head < n, api.ErrScope)
		return o.plainSpine(shift.Up(o.ctx[n-m.Head-1], m.Head+1, 0), m.Args)
	case api.Const:
		unless(m.Head < len(o.sig) && !sign.Kind(o.sig[m.Head].T), api.ErrScope)
		return o.plainSpine(o.sig[m.Head].T, m.Args)
	case api.Meta:
		unless(m.Head < len(o.metas), api.ErrScope)
		u := o.metas[m.Head]
		unless(len(m.Args) == len(u.Ctx), api.ErrType)
		for i, x := range m.Args {
			o.plainTerm(x, must(subst.Apply(u.Ctx[i], api.Subst{L: m.Args[:i], Shift: n})))
		}
		return must(subst.Apply(u.T, api.Subst{L: m.Args, Shift: n}))
	}
	panic(api.ErrType)
}

// holdPlainly holds what is answered of a term of a type against the plain words; also of both as a type and as a kind.
func holdPlainly(t *testing.T, o over, m, a api.Term) api.Errno {
	t.Helper()
	want := met(func() { o.plainTerm(m, a) })
	if e := o.term(m, a); e != want {
		t.Fatalf("%v: %v, of %v: %v, not %v", o, m, a, e, want)
	}
	holdPlainlyFormed(t, o, m)
	holdPlainlyFormed(t, o, a)
	return want
}

func holdPlainlyFormed(t *testing.T, o over, a api.Term) (typ, kind api.Errno) {
	t.Helper()
	typ, kind = met(func() { o.plainType(a) }), met(func() { o.plainKind(a) })
	if e, f := o.typ(a), o.kind(a); e != typ || f != kind {
		t.Fatalf("%v: %v, as a type %v, not %v, as a kind %v, not %v", o, a, e, typ, f, kind)
	}
	return typ, kind
}

// dice are numbers that look like chance, and are the same each time.
type dice uint64

func (d *dice) roll(n int) int {
	*d = *d*6364136223846793005 + 1442695040888963407
	return int(uint64(*d)>>33) % n
}

// any is a term of which nothing is in order but that it may be.
func (d *dice) any(depth int) api.Term {
	kind := d.roll(12)
	switch {
	case kind < 2 && depth > 0:
		return lam(d.any(depth - 1))
	case kind < 5 && depth > 0:
		return pi(d.any(depth-1), d.any(depth-1))
	case kind == 5:
		return sort
	}
	t := node(list(fam(0), vari(0), con(0), hole(0))[d.roll(4)].Kind, d.roll(5))
	for depth > 0 && d.roll(2) == 0 {
		t.Args = append(t.Args, d.any(depth-1))
	}
	return t
}

func (d *dice) anys(n, depth int) []api.Term {
	var l []api.Term
	for range n {
		l = append(l, d.any(depth))
	}
	return l
}

// anywhere is a world of which nothing is in order.
func (d *dice) anywhere() over {
	o := over{ctx: d.anys(d.roll(5), 2)}
	for range d.roll(6) {
		o.sig = append(o.sig, types(d.any(3))...)
	}
	for range d.roll(5) {
		o.metas = append(o.metas, unknown(d.any(2), d.anys(d.roll(3), 2)...))
	}
	return o
}

// Whatever is asked, of worlds where nothing is in order, the plain words have it.
func TestAnythingPlainly(t *testing.T) {
	t.Parallel()
	d := dice(1)
	seen := map[api.Errno]int{}
	for range 100000 {
		o := d.anywhere()
		m, a := d.any(3), d.any(2)
		if d.roll(2) == 0 {
			a.Kind, a.Head = api.Fam, d.roll(5)
		}
		seen[holdPlainly(t, o, m, a)]++
		// What it comes to, if it comes to anything.
		if e := met(func() { a = o.plainComes(m) }); e == api.OK {
			seen[holdPlainly(t, o, m, a)]++
		}
	}
	if seen[api.OK] < 500 || seen[api.ErrScope] < 8000 || seen[api.ErrType] < 50000 {
		t.Errorf("met by number: %v", seen)
	}
}

// term is a term of a type, if one is found.
func (d *dice) term(o over, a api.Term, depth int) (api.Term, bool) {
	if a.Kind == api.Pi {
		m, is := d.term(o.more(a.Args[0]), a.Args[1], depth)
		return lam(m), is
	}
	for range 4 {
		m, t, is := d.headed(o, a.Head, a.Args, depth)
		if is && equal(t, a) {
			return m, true
		}
	}
	return api.Term{}, false
}

// headed is a term of a family, and its type; near are terms that may stand in it.
func (d *dice) headed(o over, family int, near []api.Term, depth int) (m, t api.Term, is bool) {
	heads := o.heads(family, depth)
	if len(heads) == 0 {
		return m, t, false
	}
	m = heads[d.roll(len(heads))]
	var ctx []api.Term
	switch m.Kind {
	case api.Meta:
		ctx = o.metas[m.Head].Ctx
	default:
		ctx, _ = sign.Split(o.declared(m))
	}
	for i, entry := range ctx {
		s := api.Subst{L: m.Args}
		if m.Kind == api.Meta {
			s.Shift = len(o.ctx)
		}
		want, e := subst.Apply(entry, s)
		if e != api.OK {
			return m, t, false
		}
		arg, found := d.near(o, want, near)
		if !found {
			arg, found = d.term(o, want, depth-1)
		}
		if !found {
			return m, t, false
		}
		m.Args = append(m.Args[:i:i], arg)
	}
	e := met(func() { t = o.plainComes(m) })
	return m, t, e == api.OK
}

// declared is what a Var or a Const is declared of.
func (o over) declared(m api.Term) api.Term {
	if m.Kind == api.Var {
		return shift.Up(o.ctx[len(o.ctx)-1-m.Head], m.Head+1, 0)
	}
	return o.sig[m.Head].T
}

// heads are all heads that come to a family; without depth those that need no Args.
func (o over) heads(family, depth int) []api.Term {
	var l []api.Term
	add := func(m, t api.Term, entries int) {
		if sign.Family(t) == family && (depth > 0 || t.Kind == api.Fam && entries == 0) {
			l = append(l, m)
		}
	}
	for i, d := range o.sig {
		add(con(i), d.T, 0)
	}
	for i := range o.ctx {
		// Entries are taken more often than others.
		add(vari(i), o.ctx[len(o.ctx)-1-i], 0)
		add(vari(i), o.ctx[len(o.ctx)-1-i], 0)
	}
	for i, u := range o.metas {
		add(hole(i), u.T, len(u.Ctx))
	}
	return l
}

// near is a term of a type that is one of these, or in one.
func (d *dice) near(o over, a api.Term, l []api.Term) (api.Term, bool) {
	if len(l) == 0 || d.roll(4) == 0 {
		return api.Term{}, false
	}
	m := l[d.roll(len(l))]
	if (m.Kind == api.Const || m.Kind == api.Var) && len(m.Args) > 0 && d.roll(2) == 0 {
		m = m.Args[d.roll(len(m.Args))]
	}
	return m, met(func() { o.plainTerm(m, a) }) == api.OK
}

// typ is a type.
func (d *dice) typ(o over, depth int) api.Term {
	kind := d.roll(9)
	switch {
	case kind < 2 && depth > 0:
		a := d.typ(o, depth-1)
		return pi(a, d.typ(o.more(a), depth-1))
	case kind < 4:
		return nat
	case kind < 5:
		return tm
	case kind < 6:
		// What something comes to is a type of which there is something.
		if _, t, is := d.headed(o, list(fam(vecF), fam(plusF))[d.roll(2)].Head, nil, 2); is {
			return t
		}
	case kind < 7:
		if n, is := d.term(o, nat, 2); is {
			return vec(n)
		}
	case kind < 8:
		n, is := d.term(o, nat, 1)
		if m, too := d.term(o, nat, 1); is && too {
			return list(plus(zero, n, n), plus(n, m, n), plus(succ(n), m, succ(m)))[d.roll(3)]
		}
	}
	return fun
}

// types are a context behind the one there is.
func (d *dice) types(o over, n int) over {
	for range n {
		o = o.more(d.typ(o, 1+d.roll(2)))
	}
	return o
}

// world is a context, and metas, that are in order.
func (d *dice) world() over {
	var metas []api.MetaDecl
	for range d.roll(4) {
		own := d.types(in().with(metas...), d.roll(3))
		t := d.typ(own, 0)
		if t.Kind == api.Fam {
			metas = append(metas, unknown(t, own.ctx...))
		}
	}
	return d.types(in().with(metas...), d.roll(5))
}

// other is a term with one thing changed in it.
func (d *dice) other(t api.Term) api.Term {
	if len(t.Args) > 0 && d.roll(4) > 0 {
		args, i := slices.Clone(t.Args), d.roll(len(t.Args))
		args[i] = d.other(args[i])
		return node(t.Kind, t.Head, args...)
	}
	headed := t.Kind != api.Sort && t.Kind != api.Pi && t.Kind != api.Lam
	switch what := d.roll(4); {
	case what == 0 || !headed:
		return d.any(1)
	case what == 1:
		return node(t.Kind, t.Head, append(slices.Clone(t.Args), d.any(1))...)
	case what == 2 && len(t.Args) > 0:
		return node(t.Kind, t.Head, t.Args[:len(t.Args)-1]...)
	}
	return node(t.Kind, d.roll(t.Head+2), t.Args...)
}

// right is something in order: a term of a type, in a world that is in order as well.
func (d *dice) right() (over, api.Term, api.Term) {
	for {
		o := d.world()
		a := d.typ(o, 1)
		if m, is := d.term(o, a, 3); is {
			return o, m, a
		}
	}
}

// What is in order is OK, and with one thing changed what the plain words have.
func TestWhatIsInOrderPlainly(t *testing.T) {
	t.Parallel()
	d := dice(2)
	seen := map[api.Errno]int{}
	for range 5000 {
		o, m, a := d.right()
		if e := holdPlainly(t, o, m, a); e != api.OK {
			t.Fatalf("%v: %v, of %v: %v", o, m, a, e)
		}
		if typ, _ := holdPlainlyFormed(t, o, a); typ != api.OK {
			t.Fatalf("%v: %v, a type: %v", o, a, typ)
		}
		for range 3 {
			seen[holdPlainly(t, o, d.other(m), a)]++
			seen[holdPlainly(t, o, m, d.other(a))]++
			holdPlainlyFormed(t, o, pi(a, d.other(a)))
			holdPlainlyFormed(t, o, pis(a, d.other(shift.Up(a, 1, 0)), sort))
		}
	}
	if seen[api.OK] < 4000 || seen[api.ErrScope] < 1000 || seen[api.ErrType] < 15000 {
		t.Errorf("met by number: %v", seen)
	}
}

// P10.4

func TestWhatHasATypeHasJustOne(t *testing.T) {
	t.Parallel()
	d := dice(3)
	var others []api.Term
	for range 3000 {
		o, m, a := d.right()
		if a.Kind != api.Fam {
			continue
		}
		others = append(others, a)
		for range 20 {
			b := list(others[d.roll(len(others))], d.other(a), nat, tm)[d.roll(4)]
			e := o.term(m, b)
			if same := equal(a, b); same && e != api.OK || !same && e != api.ErrType {
				t.Fatalf("%v: %v is of %v, and of %v: %v", o, m, a, b, e)
			}
		}
	}
	if len(others) < 1000 {
		t.Errorf("%d alone", len(others))
	}
}

// With more entries in front, whatever these are, it has the same type.
func TestMoreEntriesInFront(t *testing.T) {
	t.Parallel()
	d := dice(4)
	for range 2000 {
		o, m, a := d.right()
		k := pis(a, d.typ(o.more(a), 1), sort)
		for _, front := range [][]api.Term{list(nat), d.types(in(), 3).ctx, d.anys(1+d.roll(4), 3), times(mostEntries-len(o.ctx), tm)} {
			f := o
			f.ctx = slices.Concat(front, o.ctx)
			if e, typ, kind := f.term(m, a), f.typ(a), f.kind(k); e != api.OK || typ != api.OK || kind != api.OK {
				t.Fatalf("%v: %v, of %v: %v, the type %v, the kind %v: %v", f, m, a, e, typ, k, kind)
			}
		}
	}
}

// put is a world with a term put for a variable of it, and what puts it there.
func (o over) put(n api.Term, head int) (over, api.Subst, api.Errno) {
	at := len(o.ctx) - 1 - head
	s, ctx := api.Subst{L: list(n)}, slices.Clone(o.ctx[:at])
	for _, entry := range o.ctx[at+1:] {
		x, e := subst.Apply(entry, s)
		if e != api.OK {
			return o, s, e
		}
		s, ctx = subst.Under(s), append(ctx, x)
	}
	o.ctx = ctx
	return o, s, api.OK
}

// With a term of its type for a variable what has a type has what that is then; what is a type, or a kind, is one.
func TestATermForAVariable(t *testing.T) {
	t.Parallel()
	d := dice(5)
	put, gone := 0, 0
	for range 6000 {
		o, m, a := d.right()
		if len(o.ctx) == 0 {
			continue
		}
		head := d.roll(len(o.ctx))
		ahead := o
		ahead.ctx = o.ctx[:len(o.ctx)-1-head]
		n, is := d.term(ahead, o.ctx[len(ahead.ctx)], 2)
		if !is {
			continue
		}
		then, s, e := o.put(n, head)
		x, f := subst.Apply(m, s)
		b, g := subst.Apply(a, s)
		if e != api.OK || f != api.OK || g != api.OK {
			t.Fatalf("%v: %v for %d: %v, %v, %v", o, n, head, e, f, g)
		}
		if put++; !equal(x, m) {
			gone++
		}
		k := pis(b, shift.Up(b, 1, 0), sort)
		if e, typ, kind := then.term(x, b), then.typ(b), then.kind(k); e != api.OK || typ != api.OK || kind != api.OK {
			t.Fatalf("%v: %v, of %v, with %v for %d: %v, of %v: %v, a type: %v, in a kind: %v", o, m, a, n, head, x, b, e, typ, kind)
		}
	}
	if put < 1000 || gone < 300 {
		t.Errorf("%d put, of which %d change something", put, gone)
	}
}

// P2

// theta are terms for all metas, of their types, over none.
func (d *dice) theta(o over) ([]api.Term, bool) {
	var theta []api.Term
	for _, u := range o.metas {
		ctx, e := meta.Ctx(u.Ctx, theta, 0)
		t, f := meta.Fill(u.T, theta, len(ctx))
		if e != api.OK || f != api.OK {
			return nil, false
		}
		m, is := d.term(in(ctx...), t, 2)
		if !is {
			return nil, false
		}
		theta = append(theta, m)
	}
	return theta, true
}

// With terms for metas what has a type has what that is then.
func TestTermsForMetas(t *testing.T) {
	t.Parallel()
	d := dice(6)
	filled, gone := 0, 0
	for range 6000 {
		o, m, a := d.right()
		theta, is := d.theta(o)
		if !is || len(theta) == 0 {
			continue
		}
		n := len(o.ctx)
		ctx, e := meta.Ctx(o.ctx, theta, 0)
		x, f := meta.Fill(m, theta, n)
		b, g := meta.Fill(a, theta, n)
		if e != api.OK || f != api.OK || g != api.OK {
			t.Fatalf("%v: %v, of %v, filled with %v: %v, %v, %v", o, m, a, theta, e, f, g)
		}
		if filled++; !equal(x, m) {
			gone++
		}
		if e, typ := in(ctx...).term(x, b), in(ctx...).typ(b); e != api.OK || typ != api.OK {
			t.Fatalf("%v: %v, of %v, filled with %v: %v, of %v: %v, a type: %v", o, m, a, theta, x, b, e, typ)
		}
	}
	if filled < 1000 || gone < 300 {
		t.Errorf("%d filled, of which %d change something", filled, gone)
	}
}
