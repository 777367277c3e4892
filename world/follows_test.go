package world_test

import (
	"slices"
	"testing"

	"amanuensis/api"
	"amanuensis/check"
	"amanuensis/sign"
	"amanuensis/world"
)

// The chapter's words, one by one: what the package answers is held against them.

// plainSig is told from the beginning that is one shorter.
func plainSig(sig []api.Decl) place {
	if len(sig) > 40 {
		return place{0, api.ErrLimit}
	}
	if len(sig) == 0 {
		return right
	}
	n := len(sig) - 1
	if p := plainSig(sig[:n]); p != right {
		return p
	}
	over, last := slices.Clone(sig[:n]), sig[n].T
	e := check.Type(over, nil, nil, last)
	if _, end := sign.Split(last); end.Kind == api.Sort {
		e = check.Kind(over, nil, nil, last)
	}
	if e != api.OK {
		return place{n, e}
	}
	return right
}

func (b behind) plain() api.Errno {
	if len(b.ctx) > 40 {
		return api.ErrLimit
	}
	around := slices.Clone(b.around)
	for _, a := range b.ctx {
		if e := check.Type(b.sig, b.metas, around, a); e != api.OK {
			return e
		}
		around = append(around, a)
	}
	return api.OK
}

func plainSchema(sig []api.Decl, schema []api.Term) api.Errno {
	if len(schema) > 40 {
		return api.ErrLimit
	}
	for _, a := range schema {
		if a.Kind != api.Fam {
			return api.ErrArg
		}
		if e := check.Type(sig, nil, nil, a); e != api.OK {
			return e
		}
	}
	return api.OK
}

func plainConforms(schema, ctx []api.Term) bool {
	found := 0
	for _, a := range ctx {
		if slices.ContainsFunc(schema, func(b api.Term) bool { return equal(a, b) }) {
			found++
		}
	}
	return found == len(ctx)
}

// dice are numbers that look like chance, and are the same each time.
type dice uint64

func (d *dice) roll(n int) int {
	*d = *d*6364136223846793005 + 1442695040888963407
	return int(uint64(*d)>>33) % n
}

// any is a term of which nothing is in order; now and then it may not be, either.
func (d *dice) any(depth int) api.Term {
	kind := d.roll(40)
	switch {
	case kind < 6 && depth > 0:
		return lam(d.any(depth - 1))
	case kind < 18 && depth > 0:
		return pi(d.any(depth-1), d.any(depth-1))
	case kind < 24:
		return sort
	case kind == 24:
		return node(d.roll(9)-1, d.roll(3)-1, d.anys(d.roll(4), 0)...)
	}
	t := node(list(fam(0), fam(0), vari(0), con(0), hole(0))[d.roll(5)].Kind, d.roll(4))
	for depth > 0 && d.roll(3) == 0 {
		t.Args = append(t.Args, d.any(depth-1))
	}
	return t
}

func (d *dice) anys(n, depth int) []api.Term {
	var l []api.Term
	for range n {
		l = append(l, d.any(depth))
	}
	return l
}

// number is a number, over what there is.
func (d *dice) number(b behind, depth int) api.Term {
	var heads []api.Term
	var asked []int
	add := func(head, t api.Term, entries []api.Term) {
		l, end := sign.Split(t)
		l = append(slices.Clone(entries), l...)
		if equal(end, nat) && !slices.ContainsFunc(l, func(a api.Term) bool { return !equal(a, nat) }) && (depth > 0 || len(l) == 0) {
			heads, asked = append(heads, head), append(asked, len(l))
		}
	}
	for i, x := range b.sig {
		add(con(i), x.T, nil)
	}
	all := slices.Concat(b.around, b.ctx)
	for i, a := range slices.Backward(all) {
		add(vari(len(all)-1-i), a, nil)
	}
	for i, m := range b.metas {
		add(hole(i), m.T, m.Ctx)
	}
	i := d.roll(len(heads))
	for range asked[i] {
		heads[i].Args = append(heads[i].Args, d.number(b, depth-1))
	}
	return heads[i]
}

// typ is a type, over what there is: a Fam, if there is no depth.
func (d *dice) typ(b behind, depth int) api.Term {
	if depth > 0 && d.roll(3) == 0 {
		a := d.typ(b, depth-1)
		return pi(a, d.typ(b.more(a), depth-1))
	}
	for {
		i := d.roll(len(b.sig))
		l, end := sign.Split(b.sig[i].T)
		if end.Kind != api.Sort || slices.ContainsFunc(l, func(a api.Term) bool { return !equal(a, nat) }) {
			continue
		}
		t := fam(i)
		for range l {
			t.Args = append(t.Args, d.number(b, 2))
		}
		return t
	}
}

func (b behind) more(entry api.Term) behind {
	b.ctx = append(slices.Clone(b.ctx), entry)
	return b
}

// sig is a signature of so many declarations that is in order: numbers are the first ones.
func (d *dice) sig(n int) []api.Decl {
	l := list(sort, nat, pi(nat, nat), pi(nat, sort))[:min(n, 4)]
	for len(l) < n {
		b := behind{sig: types(l...)}
		t := d.typ(b, 2)
		switch d.roll(4) {
		case 0:
			l = append(l, pis(append(times(d.roll(3), nat), sort)...))
		case 1:
			l = append(l, pis(t, d.typ(b.more(t), 1), sort))
		default:
			l = append(l, t)
		}
	}
	return types(l...)
}

// metas are metas that are in order.
func (d *dice) metas(sig []api.Decl) []api.MetaDecl {
	var l []api.MetaDecl
	for range d.roll(4) {
		b := behind{sig: sig, metas: l}
		for range d.roll(3) {
			b = b.more(d.typ(b, 1))
		}
		l = append(l, unknown(list(nat, d.typ(b, 0))[d.roll(2)], b.ctx...))
	}
	return l
}

// right is a context that is in order, behind one that is, over what is, too.
func (d *dice) right() behind { return d.great(2+d.roll(12), d.roll(6)) }

// great is one of so many entries, over so many declarations.
func (d *dice) great(decls, entries int) behind {
	b := behind{sig: d.sig(decls)}
	b.metas = d.metas(b.sig)
	for range d.roll(5) {
		b = b.more(d.typ(b, 2))
	}
	b.around, b.ctx = b.ctx, nil
	for range entries {
		b = b.more(d.typ(b, 2))
	}
	return b
}

// other is a term with one thing changed in it.
func (d *dice) other(t api.Term) api.Term {
	if len(t.Args) > 0 && d.roll(3) > 0 {
		args, i := slices.Clone(t.Args), d.roll(len(t.Args))
		args[i] = d.other(args[i])
		return node(t.Kind, t.Head, args...)
	}
	headed := t.Kind != api.Sort && t.Kind != api.Pi && t.Kind != api.Lam
	switch what := d.roll(4); {
	case what == 0 || !headed:
		return d.any(1)
	case what == 1:
		return node(t.Kind, t.Head, append(slices.Clone(t.Args), d.any(1))...)
	case what == 2 && len(t.Args) > 0:
		return node(t.Kind, t.Head, t.Args[:len(t.Args)-1]...)
	}
	return node(t.Kind, d.roll(t.Head+3), t.Args...)
}

// others are terms of which one is another one, and now and then one more.
func (d *dice) others(l []api.Term) []api.Term {
	l = slices.Clone(l)
	for len(l) > 0 {
		i := d.roll(len(l))
		l[i] = d.other(l[i])
		if d.roll(3) > 0 {
			break
		}
	}
	return l
}

// seen is how often each error was met.
type seen map[api.Errno]int

func (s seen) atLeast(t *testing.T, n int, l ...api.Errno) {
	t.Helper()
	for _, e := range l {
		if s[e] < n {
			t.Errorf("%v was met %d times alone", e, s[e])
		}
	}
}

func (s seen) sig(t *testing.T, sig []api.Decl) place {
	t.Helper()
	want := plainSig(sig)
	if at, e := world.Sig(sig); at != want.at || e != want.e {
		t.Fatalf("%v: %d, %v, not %v", sig, at, e, want)
	}
	s[want.e]++
	return want
}

func (s seen) ctx(t *testing.T, b behind) api.Errno {
	t.Helper()
	want := b.plain()
	if e := b.tell(); e != want {
		t.Fatalf("%v: %v, not %v", b, e, want)
	}
	s[want]++
	return want
}

func (s seen) schema(t *testing.T, sig []api.Decl, schema []api.Term) api.Errno {
	t.Helper()
	want := plainSchema(sig, schema)
	if e := world.Schema(sig, schema); e != want {
		t.Fatalf("%v over %v: %v, not %v", schema, sig, e, want)
	}
	s[want]++
	return want
}

func holdConformsPlainly(t *testing.T, schema, ctx []api.Term) bool {
	t.Helper()
	want := plainConforms(schema, ctx)
	if is := world.Conforms(schema, ctx); is != want {
		t.Fatalf("%v to %v: %v", ctx, schema, is)
	}
	return want
}

// Whatever is asked, of what is not in order at all, the plain words have it.
func TestAnythingPlainly(t *testing.T) {
	t.Parallel()
	d := dice(1)
	sigs, ctxs, schemas := seen{}, seen{}, seen{}
	conform := map[bool]int{}
	for range 50000 {
		l := d.anys(d.roll(6), 2)
		sigs.sig(t, types(l...))
		b := behind{types(l...), nil, d.anys(d.roll(3), 1), d.anys(d.roll(4), 2)}
		for range d.roll(3) {
			b.metas = append(b.metas, unknown(d.any(1), d.anys(d.roll(3), 1)...))
		}
		ctxs.ctx(t, b)
		schemas.schema(t, b.sig, b.ctx)
		// A Fam of no Args that is a family is in order now and then.
		b.ctx = append(times(d.roll(3), fam(d.roll(3))), b.ctx...)
		ctxs.ctx(t, b)
		schemas.schema(t, b.sig, b.ctx)
		conform[holdConformsPlainly(t, d.anys(d.roll(8), 0), d.anys(d.roll(3), 0))]++
	}
	sigs.atLeast(t, 1000, api.OK, api.ErrArg, api.ErrScope, api.ErrType)
	ctxs.atLeast(t, 1000, api.OK, api.ErrArg, api.ErrScope, api.ErrType)
	schemas.atLeast(t, 1000, api.OK, api.ErrArg, api.ErrScope)
	schemas.atLeast(t, 100, api.ErrType)
	if conform[true] < 10000 || conform[false] < 10000 {
		t.Errorf("conforming: %v", conform)
	}
}

// What is in order is OK, and with one thing changed what the plain words have.
func TestWhatIsInOrderPlainly(t *testing.T) {
	t.Parallel()
	d := dice(2)
	sigs, ctxs, schemas := seen{}, seen{}, seen{}
	for range 3000 {
		b := d.right()
		if p := sigs.sig(t, b.sig); p != right {
			t.Fatalf("%v: %v", b.sig, p)
		}
		if e := ctxs.ctx(t, b); e != api.OK {
			t.Fatalf("%v: %v", b, e)
		}
		var schema []api.Term
		for range d.roll(5) {
			schema = append(schema, d.typ(behind{sig: b.sig}, 0))
		}
		if e := schemas.schema(t, b.sig, schema); e != api.OK {
			t.Fatalf("%v over %v: %v", schema, b.sig, e)
		}
		for range 5 {
			sigs.sig(t, types(d.others(decls(b.sig))...))
			schemas.schema(t, b.sig, d.others(schema))
			c := b
			c.ctx = d.others(b.ctx)
			ctxs.ctx(t, c)
			c = b
			c.around = d.others(b.around)
			ctxs.ctx(t, c)
			c = b
			c.sig = types(d.others(decls(b.sig))...)
			ctxs.ctx(t, c)
			schemas.schema(t, c.sig, schema)
			c = b
			c.metas, c.around = nil, b.around[:d.roll(len(b.around)+1)]
			ctxs.ctx(t, c)
		}
	}
	sigs.atLeast(t, 1000, api.OK, api.ErrScope, api.ErrType)
	ctxs.atLeast(t, 1000, api.OK, api.ErrScope, api.ErrType)
	schemas.atLeast(t, 1000, api.OK, api.ErrScope, api.ErrType, api.ErrArg)
}

// P11.4

// decls are the types, and kinds, of a signature.
func decls(sig []api.Decl) []api.Term {
	var l []api.Term
	for _, x := range sig {
		l = append(l, x.T)
	}
	return l
}

func holdBeginnings(t *testing.T, b behind) {
	t.Helper()
	for n := range len(b.sig) + 1 {
		holdSig(t, "a beginning", b.sig[:n], right)
	}
	for n := range len(b.ctx) + 1 {
		c := b
		c.ctx = b.ctx[:n]
		holdCtx(t, "a beginning", c, api.OK)
	}
}

func TestBeginnings(t *testing.T) {
	t.Parallel()
	d := dice(3)
	for range 1500 {
		holdBeginnings(t, d.right())
	}
	for range 20 {
		holdBeginnings(t, d.great(40, 40))
	}
}

// Of a signature that is not in order each beginning is, up to the declaration that is wrong; from there on all tell what the whole does.
func TestBeginningsOfAWrongSignature(t *testing.T) {
	t.Parallel()
	d := dice(6)
	wrong := 0
	for range 3000 {
		sig := types(d.others(decls(d.sig(2 + d.roll(12))))...)
		at, e := world.Sig(sig)
		for n := range sig {
			want := place{at, e}
			if n <= at {
				want = right
			}
			holdSig(t, "a beginning of what is wrong", sig[:n], want)
		}
		if e != api.OK {
			wrong++
		}
	}
	if wrong < 1000 {
		t.Errorf("%d alone", wrong)
	}
}

// Of a context that is not in order each beginning is, up to the entry that is wrong; from there on all tell what the whole does.
func TestBeginningsOfAWrongContext(t *testing.T) {
	t.Parallel()
	d := dice(4)
	wrong := 0
	for range 3000 {
		b := d.right()
		b.ctx = d.others(b.ctx)
		whole := b.tell()
		if whole == api.OK {
			continue
		}
		wrong++
		met := false
		for n := range b.ctx {
			c := b
			c.ctx = b.ctx[:n]
			e := c.tell()
			if met && e != whole || e != api.OK && e != whole {
				t.Fatalf("%v: %v of %d, of all %v", b, e, n, whole)
			}
			met = e != api.OK
		}
	}
	if wrong < 1000 {
		t.Errorf("%d alone", wrong)
	}
}

// What conforms to a schema that is in order is a context, behind any other one, with any metas.
func TestWhatConformsIsAContext(t *testing.T) {
	t.Parallel()
	d := dice(5)
	entries := 0
	for range 2000 {
		b := d.right()
		var schema []api.Term
		for range 1 + d.roll(8) {
			schema = append(schema, d.typ(behind{sig: b.sig}, 0))
		}
		holdSchema(t, "in order", b.sig, schema, api.OK)
		b.ctx = nil
		for range []int{0, 1, 2, 5, 9, 40}[d.roll(6)] {
			b.ctx = append(b.ctx, schema[d.roll(len(schema))])
		}
		entries += len(b.ctx)
		holdConforms(t, "of the schema", schema, b.ctx, true)
		holdCtx(t, "what conforms", b, api.OK)
		b.around = append(list(zero, fam(99), vec(vari(7))), b.around...)
		holdCtx(t, "what conforms, behind what is no context", b, api.OK)
		b.metas = append(b.metas, unknown(sort, zero, vari(9)))
		holdCtx(t, "what conforms, with metas that are wrong", b, api.OK)
		b.around, b.metas = nil, nil
		holdCtx(t, "what conforms, behind nothing", b, api.OK)
		b.ctx = append(b.ctx, schema...)
		if len(b.ctx) > 40 {
			holdConforms(t, "of the schema, and too many", schema, b.ctx, true)
			holdCtx(t, "what conforms, and is too many", b, api.ErrLimit)
			continue
		}
		c := d.others(b.ctx)
		if holdConformsPlainly(t, schema, c) {
			b.ctx = c
			holdCtx(t, "what conforms, though changed", b, api.OK)
		}
	}
	if entries < 5000 {
		t.Errorf("%d entries alone", entries)
	}
}
