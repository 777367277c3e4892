package metas_test

import (
	"slices"
	"testing"

	"amanuensis/api"
	"amanuensis/check"
	"amanuensis/meta"
	"amanuensis/metas"
	"amanuensis/shift"
	"amanuensis/sign"
	"amanuensis/subst"
	"amanuensis/world"
)

// The chapter's words, one by one: what the package answers is held against them.

// plainDecls is told from the beginning that is one shorter.
func plainDecls(sig []api.Decl, l []api.MetaDecl) place {
	if len(l) > 40 {
		return place{0, api.ErrLimit}
	}
	if len(l) == 0 {
		return right
	}
	n := len(l) - 1
	if p := plainDecls(sig, l[:n]); p != right {
		return p
	}
	over, last := slices.Clone(l[:n]), l[n]
	e := world.Ctx(sig, over, nil, last.Ctx)
	if e == api.OK && last.T.Kind != api.Fam {
		e = api.ErrArg
	}
	if e == api.OK && last.Param && len(last.Ctx) != 0 {
		e = api.ErrArg
	}
	if e == api.OK {
		e = check.Type(sig, over, last.Ctx, last.T)
	}
	if e != api.OK {
		return place{n, e}
	}
	return right
}

func (x terms) plain() api.Errno {
	if len(x.delta) > 40 {
		return api.ErrLimit
	}
	if len(x.theta) != len(x.delta) {
		return api.ErrType
	}
	for i := range x.delta {
		if e := x.plainTerm(i); e != api.OK {
			return e
		}
	}
	return api.OK
}

// plainTerm is what is wrong with one term. The context is filled entry by entry, as meta's chapter has it.
func (x terms) plainTerm(i int) api.Errno {
	d, m, ahead := x.delta[i], x.theta[i], slices.Clone(x.theta[:i])
	ctx := slices.Clone(x.ext)
	for n, entry := range d.Ctx {
		a, e := meta.Fill(entry, ahead, n)
		if e != api.OK {
			return e
		}
		ctx = append(ctx, a)
	}
	a, e := meta.Fill(d.T, ahead, len(d.Ctx))
	if e != api.OK {
		return e
	}
	if e := check.Term(x.sig, x.metas, ctx, m, a); e != api.OK {
		return e
	}
	isVar := m.Kind == api.Var && len(m.Args) == 0
	isParam := m.Kind == api.Meta && m.Head < len(x.metas) && x.metas[m.Head].Param
	if d.Param && !isVar && !isParam {
		return api.ErrType
	}
	return api.OK
}

// dice are numbers that look like chance, and are the same each time.
type dice uint64

func (d *dice) roll(n int) int {
	*d = *d*6364136223846793005 + 1442695040888963407
	return int(uint64(*d)>>33) % n
}

// any is a term of which nothing is in order; now and then it may not be, either.
func (d *dice) any(depth int) api.Term {
	kind := d.roll(60)
	switch {
	case kind < 6 && depth > 0:
		return lam(d.any(depth - 1))
	case kind < 14 && depth > 0:
		return pi(d.any(depth-1), d.any(depth-1))
	case kind < 17:
		return sort
	case kind == 17:
		return node(d.roll(9)-1, d.roll(3)-1, d.anys(d.roll(4), 0)...)
	}
	t := node(list(fam(0), fam(0), vari(0), con(0), hole(0))[d.roll(5)].Kind, d.roll(4))
	for depth > 0 && d.roll(3) == 0 {
		t.Args = append(t.Args, d.any(depth-1))
	}
	return t
}

func (d *dice) anys(n, depth int) []api.Term {
	var l []api.Term
	for range n {
		l = append(l, d.any(depth))
	}
	return l
}

// anyMetas are metas of which nothing is in order but that many are of a family.
func (d *dice) anyMetas(n int) []api.MetaDecl {
	var l []api.MetaDecl
	for range n {
		m := api.MetaDecl{T: d.any(1), Param: d.roll(4) == 0}
		if d.roll(2) == 0 {
			m.T.Kind = api.Fam
		}
		for range d.roll(3) {
			m.Ctx = append(m.Ctx, list(fam(d.roll(2)), d.any(2))[d.roll(2)])
		}
		l = append(l, m)
	}
	return l
}

// over is what terms and types are told over.
type over struct {
	metas []api.MetaDecl
	ctx   []api.Term
}

func in(metas []api.MetaDecl, ctx ...api.Term) over { return over{metas, ctx} }

func (o over) more(entry api.Term) over {
	o.ctx = append(slices.Clone(o.ctx), entry)
	return o
}

func (o over) has(m, a api.Term) bool { return check.Term(system(), o.metas, o.ctx, m, a) == api.OK }

// comes is the type that something with a head comes to: its Args are right.
func (o over) comes(m api.Term) (api.Term, api.Errno) {
	if m.Kind == api.Meta {
		return subst.Apply(o.metas[m.Head].T, api.Subst{L: m.Args, Shift: len(o.ctx)})
	}
	t := o.declared(m)
	for _, arg := range m.Args {
		then, e := subst.Apply(t.Args[1], api.Subst{L: list(arg)})
		if e != api.OK {
			return t, e
		}
		t = then
	}
	return t, api.OK
}

// declared is what a Var or a Const is declared of.
func (o over) declared(m api.Term) api.Term {
	if m.Kind == api.Var {
		return shift.Up(o.ctx[len(o.ctx)-1-m.Head], m.Head+1, 0)
	}
	return system()[m.Head].T
}

// heads are all heads that come to a family; without depth those that need no Args.
func (o over) heads(family, depth int) []api.Term {
	var l []api.Term
	add := func(m, t api.Term, entries int) {
		if sign.Family(t) == family && (depth > 0 || t.Kind == api.Fam && entries == 0) {
			l = append(l, m)
		}
	}
	for i, d := range system() {
		add(con(i), d.T, 0)
	}
	for i := range o.ctx {
		// Entries, and metas, are taken more often than others.
		add(vari(i), o.ctx[len(o.ctx)-1-i], 0)
		add(vari(i), o.ctx[len(o.ctx)-1-i], 0)
	}
	for i, u := range o.metas {
		add(hole(i), u.T, len(u.Ctx))
		add(hole(i), u.T, len(u.Ctx))
	}
	return l
}

// term is a term of a type, if one is found.
func (d *dice) term(o over, a api.Term, depth int) (api.Term, bool) {
	if a.Kind == api.Pi {
		m, is := d.term(o.more(a.Args[0]), a.Args[1], depth)
		return lam(m), is
	}
	for range 4 {
		m, t, is := d.headed(o, a.Head, a.Args, depth)
		if is && equal(t, a) {
			return m, true
		}
	}
	return api.Term{}, false
}

// headed is a term of a family, and its type; near are terms that may stand in it.
func (d *dice) headed(o over, family int, near []api.Term, depth int) (m, t api.Term, is bool) {
	heads := o.heads(family, depth)
	if len(heads) == 0 {
		return m, t, false
	}
	m = heads[d.roll(len(heads))]
	shift := 0
	var entries []api.Term
	if m.Kind == api.Meta {
		entries, shift = o.metas[m.Head].Ctx, len(o.ctx)
	} else {
		entries, _ = sign.Split(o.declared(m))
	}
	for _, entry := range entries {
		want, e := subst.Apply(entry, api.Subst{L: m.Args, Shift: shift})
		if e != api.OK {
			return m, t, false
		}
		arg, found := d.near(o, want, near)
		if !found {
			arg, found = d.term(o, want, depth-1)
		}
		if !found {
			return m, t, false
		}
		m.Args = append(m.Args[:len(m.Args):len(m.Args)], arg)
	}
	t, e := o.comes(m)
	return m, t, e == api.OK
}

// near is a term of a type that is one of these, or in one.
func (d *dice) near(o over, a api.Term, l []api.Term) (api.Term, bool) {
	if len(l) == 0 || d.roll(4) == 0 {
		return api.Term{}, false
	}
	m := l[d.roll(len(l))]
	if len(m.Args) > 0 && m.Kind != api.Lam && d.roll(2) == 0 {
		m = m.Args[d.roll(len(m.Args))]
	}
	return m, o.has(m, a)
}

// typ is a type: a Fam, if there is no depth.
func (d *dice) typ(o over, depth int) api.Term {
	kind := d.roll(9)
	switch {
	case kind < 2 && depth > 0:
		a := d.typ(o, depth-1)
		return pi(a, d.typ(o.more(a), depth-1))
	case kind < 4:
		return nat
	case kind < 5:
		return tm
	case kind < 6:
		// What something comes to is a type of which there is something.
		if _, t, is := d.headed(o, list(fam(vecF), fam(plusF))[d.roll(2)].Head, nil, 2); is {
			return t
		}
	case kind < 8:
		if n, is := d.term(o, nat, 2); is {
			return vec(n)
		}
	default:
		n, is := d.term(o, nat, 1)
		if m, too := d.term(o, nat, 1); is && too {
			return list(plus(zero, n, n), plus(n, m, n), plus(succ(n), m, succ(m)))[d.roll(3)]
		}
	}
	return tm
}

// types are a context behind the one there is.
func (d *dice) types(o over, n, depth int) over {
	for range n {
		o = o.more(d.typ(o, depth))
	}
	return o
}

// metas are so many metas that are in order; entries are of functions now and then, if they may be.
func (d *dice) metas(n, depth int) []api.MetaDecl {
	var l []api.MetaDecl
	for range n {
		own := d.types(in(l), []int{0, 0, 1, 2}[d.roll(4)], depth)
		l = append(l, api.MetaDecl{Ctx: own.ctx, T: d.typ(own, 0), Param: len(own.ctx) == 0 && d.roll(3) == 0})
	}
	return l
}

// variable is a term for a Param, if there is one.
func (d *dice) variable(o over, a api.Term) (api.Term, bool) {
	var l []api.Term
	for i := range o.ctx {
		l = append(l, vari(i))
	}
	for i, m := range o.metas {
		if m.Param {
			l = append(l, hole(i))
		}
	}
	l = slices.DeleteFunc(l, func(m api.Term) bool { return !o.has(m, a) })
	if len(l) == 0 {
		return api.Term{}, false
	}
	return l[d.roll(len(l))], true
}

// fits is a term for a meta, behind terms for those ahead of it, if one is found.
func (d *dice) fits(x terms, m api.MetaDecl) (api.Term, bool) {
	ctx, e := meta.Ctx(m.Ctx, x.theta, 0)
	a, f := meta.Fill(m.T, x.theta, len(ctx))
	if e != api.OK || f != api.OK {
		return api.Term{}, false
	}
	o := in(x.metas, slices.Concat(x.ext, ctx)...)
	if m.Param {
		return d.variable(o, a)
	}
	return d.term(o, a, 2)
}

// all are terms for as many metas, from the first one on, as they are found for.
func (d *dice) all(x terms) terms {
	for _, m := range x.delta[len(x.theta):] {
		t, is := d.fits(x, m)
		if !is {
			break
		}
		x.theta = append(x.theta, t)
	}
	return x
}

// right are terms that fit metas that are in order, over others, behind a context of these. A meta for which there is no term is another one.
func (d *dice) right(n int) terms {
	x := terms{sig: system(), metas: d.metas(d.roll(4), 1)}
	x.ext = d.types(in(x.metas), d.roll(5), 1).ctx
	for len(x.delta) < n {
		own := d.types(in(x.delta), []int{0, 0, 1, 2, 3}[d.roll(5)], 1+d.roll(2))
		m := api.MetaDecl{Ctx: own.ctx, T: d.typ(own, 0), Param: len(own.ctx) == 0 && d.roll(2) == 0}
		if t, is := d.fits(x, m); is {
			x.delta, x.theta = append(x.delta, m), append(x.theta, t)
		}
	}
	return x
}

// other is a term with one thing changed in it.
func (d *dice) other(t api.Term) api.Term {
	if len(t.Args) > 0 && d.roll(3) > 0 {
		args, i := slices.Clone(t.Args), d.roll(len(t.Args))
		args[i] = d.other(args[i])
		return node(t.Kind, t.Head, args...)
	}
	headed := t.Kind != api.Sort && t.Kind != api.Pi && t.Kind != api.Lam
	switch what := d.roll(4); {
	case what == 0 || !headed:
		return d.any(1)
	case what == 1:
		return node(t.Kind, t.Head, append(slices.Clone(t.Args), d.any(1))...)
	case what == 2 && len(t.Args) > 0:
		return node(t.Kind, t.Head, t.Args[:len(t.Args)-1]...)
	}
	return node(t.Kind, d.roll(t.Head+3), t.Args...)
}

// others are terms of which one is another one, if there are any.
func (d *dice) others(l []api.Term) []api.Term {
	if l = slices.Clone(l); len(l) > 0 {
		i := d.roll(len(l))
		l[i] = d.other(l[i])
	}
	return l
}

// otherMetas are metas of which one is another one, if there are any.
func (d *dice) otherMetas(l []api.MetaDecl) []api.MetaDecl {
	if l = slices.Clone(l); len(l) > 0 {
		m := &l[d.roll(len(l))]
		switch what := d.roll(8); {
		case what == 0:
			m.Param = !m.Param
		case what == 1:
			m.Ctx = append(slices.Clone(m.Ctx), d.any(1))
		case what < 5 && len(m.Ctx) > 0:
			m.Ctx = d.others(m.Ctx)
		default:
			m.T = d.other(m.T)
		}
	}
	return l
}

// seen is how often each error was met.
type seen map[api.Errno]int

func (s seen) atLeast(t *testing.T, n int, l ...api.Errno) {
	t.Helper()
	for _, e := range l {
		if s[e] < n {
			t.Errorf("%v was met %d times alone", e, s[e])
		}
	}
}

func (s seen) decls(t *testing.T, sig []api.Decl, l []api.MetaDecl) place {
	t.Helper()
	want := plainDecls(sig, l)
	if at, e := metas.Decls(sig, l); at != want.at || e != want.e {
		t.Fatalf("%v over %v: %d, %v, not %v", l, sig, at, e, want)
	}
	s[want.e]++
	return want
}

func (s seen) sub(t *testing.T, x terms) api.Errno {
	t.Helper()
	want := x.plain()
	if e := x.tell(); e != want {
		t.Fatalf("%v: %v, not %v", x, e, want)
	}
	s[want]++
	return want
}

// Whatever is asked, of what is not in order at all, the plain words have it.
func TestAnythingPlainly(t *testing.T) {
	t.Parallel()
	d := dice(1)
	decls, subs := seen{}, seen{}
	for range 60000 {
		sig := append(types(sort, nat), types(d.anys(d.roll(4), 2)...)...)
		delta := d.anyMetas(d.roll(4))
		decls.decls(t, sig, delta)
		x := terms{sig: sig, metas: d.anyMetas(d.roll(4)), ext: d.anys(d.roll(3), 1), delta: delta}
		for range len(delta) + []int{0, 0, 0, 0, 1}[d.roll(5)] {
			x.theta = append(x.theta, list(d.any(2), zero, vari(d.roll(3)), hole(d.roll(3)))[d.roll(4)])
		}
		subs.sub(t, x)
		if len(delta) > 0 {
			x.theta = x.theta[1:]
			subs.sub(t, x)
		}
	}
	decls.atLeast(t, 1000, api.OK, api.ErrArg, api.ErrScope, api.ErrType)
	subs.atLeast(t, 1000, api.OK, api.ErrArg, api.ErrScope, api.ErrType)
}

// What is in order is OK, and with one thing changed what the plain words have.
func TestWhatIsInOrderPlainly(t *testing.T) {
	t.Parallel()
	d := dice(2)
	decls, subs := seen{}, seen{}
	params := map[int]int{}
	for range 2500 {
		x := d.right(1 + d.roll(4))
		for _, l := range [][]api.MetaDecl{x.metas, x.delta} {
			if p := decls.decls(t, x.sig, l); p != right {
				t.Fatalf("%v: %v", l, p)
			}
			decls.decls(t, x.sig, d.otherMetas(l))
			decls.decls(t, x.sig, d.otherMetas(d.otherMetas(l)))
		}
		if e := subs.sub(t, x); e != api.OK {
			t.Fatalf("%v: %v", x, e)
		}
		for i, m := range x.delta {
			if m.Param {
				params[x.theta[i].Kind]++
			}
		}
		for range 3 {
			y := x
			y.theta = d.others(x.theta)
			subs.sub(t, y)
			y.delta = d.otherMetas(x.delta)
			subs.sub(t, y)
			y.theta = x.theta
			subs.sub(t, y)
			y = x
			y.metas = d.otherMetas(x.metas)
			subs.sub(t, y)
			y = x
			y.ext = d.others(x.ext)
			subs.sub(t, y)
			y = x
			y.delta = slices.Clone(x.delta)
			// A Param more is right where its term is a variable.
			y.delta[d.roll(len(y.delta))].Param = true
			subs.sub(t, y)
		}
	}
	decls.atLeast(t, 1000, api.OK, api.ErrScope, api.ErrType, api.ErrArg)
	subs.atLeast(t, 1000, api.OK, api.ErrScope, api.ErrType)
	subs.atLeast(t, 100, api.ErrArg)
	if params[api.Var] < 200 || params[api.Meta] < 50 {
		t.Errorf("terms for Params, by their kinds: %v", params)
	}
}

// Of metas that are not in order each beginning is, up to the one that is wrong; from there on all tell what the whole does.
func TestBeginnings(t *testing.T) {
	t.Parallel()
	d := dice(3)
	wrong := 0
	for range 3000 {
		l := d.metas(1+d.roll(6), 1)
		if d.roll(4) > 0 {
			l = d.otherMetas(l)
		}
		at, e := metas.Decls(system(), l)
		for n := range len(l) + 1 {
			want := place{at, e}
			if n <= at {
				want = right
			}
			holdDecls(t, "a beginning", system(), l[:n], want)
		}
		if e != api.OK {
			wrong++
		}
	}
	if wrong < 1000 {
		t.Errorf("%d alone", wrong)
	}
}

// P12.4

// itself is a meta with all of its context, in order.
func itself(head int, m api.MetaDecl) api.Term {
	t := hole(head)
	for i := range m.Ctx {
		t.Args = append(t.Args, vari(len(m.Ctx)-1-i))
	}
	return t
}

// long is what has a head, and is of a type, with as many Lams as that asks for things, and with these: so is a function written in a form that has nothing to reduce.
func long(m, a api.Term) api.Term {
	l, _ := sign.Split(a)
	m = shift.Up(m, len(l), 0)
	for i, b := range l {
		n := len(l) - i
		m.Args = append(m.Args, long(vari(n-1), shift.Up(b, n, 0)))
	}
	for range l {
		m = lam(m)
	}
	return m
}

// itselfLong is a meta with all of its context, also where entries are of functions.
func itselfLong(head int, m api.MetaDecl) api.Term {
	t := hole(head)
	for i, a := range m.Ctx {
		n := len(m.Ctx) - i
		t.Args = append(t.Args, long(vari(n-1), shift.Up(a, n, 0)))
	}
	return t
}

func allOf(l []api.MetaDecl, is func(head int, m api.MetaDecl) api.Term) []api.Term {
	var theta []api.Term
	for i, m := range l {
		theta = append(theta, is(i, m))
	}
	return theta
}

// Metas that are in order are their own terms, behind any entries, where no entry is of a function.
func TestMetasAreTheirOwnTerms(t *testing.T) {
	t.Parallel()
	holdSub(t, "none", terms{sig: system()}, api.OK)
	// Those known have no entries of functions.
	holdSub(t, "known", put(known(), allOf(known(), itself)...).with(known()...), api.OK)
	d := dice(4)
	entries, params := 0, 0
	for range 3000 {
		l := d.metas(1+d.roll(6), 0)
		x := put(l, allOf(l, itself)...).with(l...)
		for _, ext := range [][]api.Term{nil, list(nat), d.types(in(l), 3, 2).ctx, d.types(in(nil), 3, 2).ctx} {
			holdSub(t, "themselves", x.behind(ext...), api.OK)
		}
		for i, m := range l {
			entries += len(m.Ctx)
			if m.Param {
				params++
			}
			// A meta that is another one, and no Param, is none for a Param.
			if m.Param && d.roll(2) == 0 {
				y := x
				y.metas = slices.Clone(l)
				y.metas[i].Param = false
				holdSub(t, "no Param for a Param", y, api.ErrType)
			}
		}
	}
	if entries < 3000 || params < 1000 {
		t.Errorf("%d entries, %d Params alone", entries, params)
	}
}

// Where an entry is of a function the variable alone is none of it (check has it so); with its Lams it is.
func TestMetasOfFunctionsAreTheirOwnTerms(t *testing.T) {
	t.Parallel()
	d := dice(5)
	functions := 0
	for range 3000 {
		l := d.metas(1+d.roll(5), 3)
		x := put(l, allOf(l, itselfLong)...).with(l...)
		holdSub(t, "themselves, with Lams", x, api.OK)
		holdSub(t, "themselves, with Lams", x.behind(d.types(in(l), 3, 2).ctx...), api.OK)
		want := api.OK
		if slices.ContainsFunc(l, func(m api.MetaDecl) bool {
			return slices.ContainsFunc(m.Ctx, func(a api.Term) bool { return a.Kind == api.Pi })
		}) {
			functions++
			want = api.ErrType
		}
		x.theta = allOf(l, itself)
		holdSub(t, "themselves, without Lams", x, want)
	}
	if functions < 1000 {
		t.Errorf("%d alone", functions)
	}
}

// 40 metas are their own terms as well.
func TestManyMetasAreTheirOwnTerms(t *testing.T) {
	t.Parallel()
	d := dice(6)
	for range 20 {
		l := d.metas(40, 0)
		holdDecls(t, "40", system(), l, right)
		holdSub(t, "40 themselves", put(l, allOf(l, itself)...).with(l...), api.OK)
		long := append(l, unknown(nat))
		holdSub(t, "41 themselves", put(long, allOf(long, itself)...).with(long...), api.ErrLimit)
	}
}

// What has a type over metas has, filled with terms for these, what its type is then: behind the entries that these stand behind.
func TestTermsForMetas(t *testing.T) {
	t.Parallel()
	d := dice(7)
	filled, gone, behind := 0, 0, 0
	for range 3000 {
		x := d.right(1 + d.roll(4))
		holdSub(t, "right", x, api.OK)
		o := d.types(in(x.delta), d.roll(4), 2)
		a := d.typ(o, 1)
		m, is := d.term(o, a, 3)
		if !is {
			continue
		}
		n := len(o.ctx)
		ctx, e := meta.Ctx(o.ctx, x.theta, 0)
		y, f := meta.Fill(m, x.theta, n)
		b, g := meta.Fill(a, x.theta, n)
		if e != api.OK || f != api.OK || g != api.OK {
			t.Fatalf("%v: %v, of %v, in %v: filled: %v, %v, %v", x, m, a, o.ctx, e, f, g)
		}
		if filled++; !equal(y, m) {
			gone++
		}
		if len(x.ext) > 0 {
			behind++
		}
		all := in(x.metas, slices.Concat(x.ext, ctx)...)
		if typ := check.Type(x.sig, all.metas, all.ctx, b); typ != api.OK || !all.has(y, b) {
			t.Fatalf("%v: %v, of %v, in %v: filled %v, of %v, a type: %v", x, m, a, o.ctx, y, b, typ)
		}
		if e := world.Ctx(x.sig, x.metas, x.ext, ctx); e != api.OK {
			t.Fatalf("%v: the context %v, filled %v: %v", x, o.ctx, ctx, e)
		}
	}
	if filled < 1500 || gone < 500 || behind < 1000 {
		t.Errorf("%d filled, of which %d change something, and %d are behind entries", filled, gone, behind)
	}
}

// Terms for metas, filled with terms for the metas that these are of, are terms for them, too.
func TestTermsOfTermsForMetas(t *testing.T) {
	t.Parallel()
	d := dice(8)
	filled := 0
	for range 3000 {
		x := d.right(1 + d.roll(3))
		below := d.all(put(x.metas))
		if len(below.theta) < len(below.delta) || len(below.delta) == 0 {
			continue
		}
		holdSub(t, "those below", below, api.OK)
		ext, e := meta.Ctx(x.ext, below.theta, 0)
		if e != api.OK {
			t.Fatalf("%v: what is around, filled with %v: %v", x, below.theta, e)
		}
		then := put(x.delta).behind(ext...)
		for i, m := range x.theta {
			y, e := meta.Fill(m, below.theta, len(ext)+len(x.delta[i].Ctx))
			if e != api.OK {
				t.Fatalf("%v: %v, filled with %v: %v", x, m, below.theta, e)
			}
			then.theta = append(then.theta, y)
		}
		filled++
		holdSub(t, "both", then, api.OK)
	}
	if filled < 300 {
		t.Errorf("%d alone", filled)
	}
}
