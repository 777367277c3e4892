package general_test

import (
	"fmt"
	"slices"
	"testing"

	"amanuensis/api"
	"amanuensis/check"
	"amanuensis/general"
	"amanuensis/meta"
	"amanuensis/metas"
	"amanuensis/occur"
	"amanuensis/shift"
	"amanuensis/sign"
	"amanuensis/subst"
	"amanuensis/world"
)

// The chapter's words, written out once more: of a Pi it is what it is of its second Arg, with the first one as one entry more, and a Lam around it.

func plain(ctx []api.Term, a api.Term, no int) told {
	for _, t := range append(slices.Clone(ctx), a) {
		if no < 0 || !mayPlainly(t) {
			return wrong(api.ErrArg)
		}
	}
	return plainIn(ctx, a, no)
}

func plainIn(ctx []api.Term, a api.Term, no int) told {
	if a.Kind == api.Pi {
		below := plainIn(append(slices.Clone(ctx), a.Args[0]), a.Args[1], no)
		if below.e == api.OK {
			below.x = lam(below.x)
		}
		return below
	}
	if len(ctx) > 40 {
		return wrong(api.ErrArg)
	}
	x := hole(no)
	for i, t := range ctx {
		if t.Kind != api.Fam {
			return wrong(api.ErrOutside)
		}
		x.Args = append(x.Args, vari(len(ctx)-1-i))
	}
	if a.Kind != api.Fam {
		return wrong(api.ErrOutside)
	}
	return unknown(ctx, a, x)
}

// mayPlainly goes through the nodes level by level.
func mayPlainly(x api.Term) bool {
	size, level := 0, list(x)
	for depth := 1; len(level) > 0; depth++ {
		size += len(level)
		if depth > 60 || size > 4000 {
			return false
		}
		var next []api.Term
		for _, n := range level {
			args, is := map[int]int{api.Sort: 0, api.Pi: 2, api.Lam: 1}[n.Kind]
			if is && (n.Head != 0 || len(n.Args) != args) || n.Head < 0 || n.Kind < 0 || n.Kind > 6 {
				return false
			}
			next = append(next, n.Args...)
		}
		level = next
	}
	return true
}

// agree holds what is told against the plain words.
func agree(t *testing.T, ctx []api.Term, a api.Term, no int) api.Errno {
	t.Helper()
	want := plain(ctx, a, no)
	hold(t, short(ctx)+", "+short(a), ctx, a, no, want)
	return want.e
}

// terms goes through all terms of so many nodes of these kinds, and of these Heads.
func terms(nodes int, kinds, heads []int, f func(x api.Term)) {
	if nodes == 0 {
		return
	}
	lists(nodes-1, kinds, heads, nil, func(args []api.Term) {
		for _, kind := range kinds {
			for _, head := range heads {
				f(node(kind, head, args...))
			}
		}
	})
}

// lists goes through all lists of terms, behind these, that have so many nodes together.
func lists(nodes int, kinds, heads []int, ahead []api.Term, f func(l []api.Term)) {
	if nodes == 0 {
		f(ahead)
		return
	}
	for n := range nodes {
		terms(n+1, kinds, heads, func(x api.Term) {
			lists(nodes-n-1, kinds, heads, append(slices.Clone(ahead), x), f)
		})
	}
}

// seen is how often each error was met.
type seen map[api.Errno]int

func (s seen) atLeast(t *testing.T, n int, l ...api.Errno) {
	t.Helper()
	for _, e := range l {
		if s[e] < n {
			t.Errorf("%d is told %d times alone", e, s[e])
		}
	}
}

func TestAllSmallTermsAgainstThePlainWords(t *testing.T) {
	told := seen{}
	both := func(most int, kinds, heads []int) {
		for n := range most + 1 {
			terms(n, kinds, heads, func(x api.Term) {
				told[agree(t, nil, x, 0)]++
				told[agree(t, list(tm, of(vari(0))), x, 3)]++
				told[agree(t, list(x), nat, 1)]++
				told[agree(t, list(tm, x), pi(nat, tm), 1)]++
			})
			// One list of all, part of it in the context.
			lists(n, kinds, heads, nil, func(l []api.Term) {
				for i := range l {
					told[agree(t, l[:i], asking(l[i:], tm), 0)]++
					told[agree(t, l[:i], asking(l[i:len(l)-1], l[len(l)-1]), 0)]++
				}
			})
		}
	}
	both(2, []int{-1, 0, 1, 2, 3, 4, 5, 6, 7}, []int{-1, 0, 1})
	both(3, []int{api.Sort, api.Pi, api.Fam, api.Lam, api.Var, api.Const, api.Meta}, []int{0})
	both(5, []int{api.Pi, api.Fam}, []int{0})
	both(4, []int{api.Pi, api.Fam, api.Var}, []int{0})
	told.atLeast(t, 1000, api.OK, api.ErrArg, api.ErrOutside)
}

// dice is a row of numbers that looks like chance, and is the same each time.
type dice uint64

func (d *dice) below(n int) int {
	*d = *d*6364136223846793005 + 1442695040888963407
	return int(uint64(*d) >> 33 % uint64(n))
}

// any is a term of any kind; one in many may not be.
func (d *dice) any(deep int) api.Term {
	kind := []int{api.Fam, api.Fam, api.Var, api.Const, api.Meta, api.Pi, api.Lam, api.Sort}[d.below(8)]
	switch {
	case d.below(200) == 0:
		return node(d.below(10)-1, d.below(4)-1, d.anys(d.below(4), 0)...)
	case deep == 0 || kind == api.Sort:
		return fam(d.below(5))
	case kind == api.Pi:
		return pi(d.any(deep-1), d.any(deep-1))
	case kind == api.Lam:
		return lam(d.any(deep - 1))
	}
	return node(kind, d.below(5), d.anys(d.below(4), deep-1)...)
}

func (d *dice) anys(n, deep int) []api.Term {
	var l []api.Term
	for range n {
		l = append(l, d.any(deep))
	}
	return l
}

// anyFams are Fams; one in many is another thing.
func (d *dice) anyFams(n, many int) []api.Term {
	l := d.anys(n, 2)
	for i := range l {
		if d.below(many) > 0 && l[i].Kind > 0 && l[i].Kind < api.Kinds {
			l[i] = fam(d.below(9), l[i].Args...)
		}
	}
	return l
}

func TestManyAgainstThePlainWords(t *testing.T) {
	t.Parallel()
	d := dice(16)
	told := seen{}
	for n := range 60000 {
		l := d.anyFams(1+d.below(8)+n%45*d.below(2), 1+n%200)
		i := d.below(len(l))
		told[agree(t, l[:i], asking(l[i:len(l)-1], l[len(l)-1]), d.below(60)-1)]++
		told[agree(t, d.anyFams(d.below(4), 40), d.any(3), d.below(5))]++
	}
	told.atLeast(t, 5000, api.OK, api.ErrArg, api.ErrOutside)
}

// P16.2

// The declarations of system.
const (
	natF  = iota // numbers
	zeroC        // 0
	succC        // and one more
	plusF        // how they are added: of three numbers
	pzC          // 0 and n is n
	psC          // n and m is k: and one more each
	tmF          // terms
	absC         // a function
	appC         // what is applied
	vecF         // rows, of so many
	noneC        // one of none
	nextC        // and one more: of n, a number, and one of n
)

var zero, none = con(zeroC), con(noneC)

func succ(t api.Term) api.Term       { return con(succC, t) }
func vec(n api.Term) api.Term        { return fam(vecF, n) }
func plus(a, b, c api.Term) api.Term { return fam(plusF, a, b, c) }
func next(n, x, r api.Term) api.Term { return con(nextC, n, x, r) }

// system are declarations that are in order.
func system() []api.Decl {
	var sig []api.Decl
	for i, t := range list(
		sort, nat, pi(nat, nat),
		pis(nat, nat, nat, sort),
		pi(nat, plus(zero, vari(0), vari(0))),
		pis(nat, nat, nat, plus(vari(2), vari(1), vari(0)), plus(succ(vari(3)), vari(2), succ(vari(1)))),
		sort, pi(pi(tm, tm), tm), pis(tm, tm, tm),
		pi(nat, sort), vec(zero), pis(nat, nat, vec(vari(1)), vec(succ(vari(2)))),
	) {
		sig = append(sig, api.Decl{Name: fmt.Sprint("x", i), T: t})
	}
	return sig
}

func TestTheSystemIsInOrder(t *testing.T) {
	if at, e := world.Sig(system()); e != api.OK {
		t.Fatal(at, e)
	}
}

func some(l ...api.MetaDecl) []api.MetaDecl { return l }

func metaOf(t api.Term, ctx ...api.Term) api.MetaDecl { return api.MetaDecl{Ctx: ctx, T: t} }

// others are metas that are in order, each over those ahead of it.
func others() []api.MetaDecl {
	return some(metaOf(nat), metaOf(nat, nat), api.MetaDecl{T: tm, Param: true}, metaOf(vec(hole(0))), metaOf(tm, tm, nat), metaOf(vec(succ(vari(0))), nat))
}

// over is what something is told over: metas, and a context.
type over struct {
	metas []api.MetaDecl
	ctx   []api.Term
}

func (o over) more(entry api.Term) over {
	o.ctx = append(slices.Clone(o.ctx), entry)
	return o
}

func (o over) has(m, a api.Term) bool { return check.Term(system(), o.metas, o.ctx, m, a) == api.OK }

// itself are metas that are to be themselves.
func itself(l []api.MetaDecl) []api.Term {
	var theta []api.Term
	for i, m := range l {
		theta = append(theta, hole(i, down(len(m.Ctx))...))
	}
	return theta
}

// mostGeneral holds that the most general term of a type has it, and is a pattern, with others ahead and behind.
func (o over) mostGeneral(t *testing.T, a api.Term) (d api.MetaDecl, x api.Term) {
	t.Helper()
	no := len(o.metas)
	d, x, e := general.General(o.ctx, a, no)
	if e != api.OK {
		t.Fatalf("%s, in %s: %d", short(a), short(o.ctx), e)
	}
	ahead := append(slices.Clone(o.metas), d)
	behind := append(slices.Clone(ahead), others()[:3]...)
	behind = append(behind, metaOf(d.T, d.Ctx...))
	for _, l := range [][]api.MetaDecl{ahead, behind} {
		if at, e := metas.Decls(system(), l); e != api.OK {
			t.Fatalf("%s, in %s: the meta %d of %s: %d", short(a), short(o.ctx), at, short(l), e)
		}
		if e := check.Term(system(), l, o.ctx, x, a); e != api.OK {
			t.Fatalf("%s has not %s, in %s: %d", short(x), short(a), short(o.ctx), e)
		}
	}
	if !occur.Patterns(x, len(o.ctx)) || !slices.Equal(occur.Metas(x), []int{no}) {
		t.Fatalf("%s is no pattern of the meta %d", short(x), no)
	}
	return d, x
}

// made holds that a term of a type is what a meta makes of it.
func (o over) made(t *testing.T, d api.MetaDecl, x, m, a api.Term) {
	t.Helper()
	body := m
	for below := a; below.Kind == api.Pi; below = below.Args[1] {
		if body.Kind != api.Lam {
			t.Fatalf("%s has the type %s", short(m), short(a))
		}
		body = body.Args[0]
	}
	theta := append(itself(o.metas), body)
	if got, e := meta.Fill(x, theta, len(o.ctx)); e != api.OK || !equal(got, m) {
		t.Fatalf("%s, to be %s, makes %s, %d, not %s", short(x), short(body), short(got), e, short(m))
	}
	if e := metas.Sub(system(), o.metas, nil, append(slices.Clone(o.metas), d), theta); e != api.OK {
		t.Fatalf("%s is none that %s may be: %d", short(body), short(d), e)
	}
}

func TestAFewMostGeneralTerms(t *testing.T) {
	tests := []struct {
		ctx []api.Term
		a   api.Term
	}{
		{nil, nat}, {nil, pi(tm, tm)}, {nil, vec(succ(zero))}, {list(tm), nat}, {list(nat), vec(vari(0))}, {list(nat, vec(vari(0)), tm), vec(vari(2))},
		{nil, pis(nat, vec(vari(0)), vec(vari(1)))}, {list(nat, nat), pis(plus(vari(1), vari(0), vari(1)), nat, plus(vari(0), vari(2), vari(3)))},
		{list(nat, vec(vari(0))), pis(nat, vec(vari(2)), plus(vari(3), vari(1), zero), vec(vari(2)))},
		{nil, vec(con(succC, hole(0)))}, {list(vec(hole(1, zero))), pis(vec(hole(0)), nat, plus(hole(1, vari(0)), vari(0), hole(0)))},
	}
	for _, x := range tests {
		for n := range len(others()) + 1 {
			if n < 2 && slices.ContainsFunc(append(x.ctx, x.a), func(a api.Term) bool { return len(occur.Metas(a)) > 0 }) {
				continue
			}
			over{others()[:n], x.ctx}.mostGeneral(t, x.a)
		}
	}
	// 40 entries in all, each of which names the one ahead of it, or the first one.
	var l []api.Term
	for i := range 40 {
		l = append(l, list(nat, vec(vari(0)), plus(vari(1), zero, vari(1)), vec(vari(2)))[i%4])
	}
	for i := range 41 {
		over{others(), l[:i]}.mostGeneral(t, asking(l[i:], vec(vari(39))))
	}
}

// All terms of a type, up to so many nodes: those that check takes.
func TestAllSmallTermsOfAType(t *testing.T) {
	t.Parallel()
	wanted := []struct {
		over
		a           api.Term
		nodes, most int
	}{
		{over{nil, nil}, nat, 6, 6}, {over{nil, nil}, pi(tm, tm), 6, 10}, {over{nil, list(tm)}, pi(tm, tm), 5, 9}, {over{nil, list(nat, tm)}, pis(nat, tm, nat), 6, 9},
		{over{nil, list(nat, vec(vari(0)))}, pis(vec(vari(1)), nat, vec(succ(vari(3)))), 6, 4}, {over{others(), list(nat)}, pi(vec(hole(0)), vec(hole(0))), 4, 2},
		{over{nil, nil}, pis(nat, nat, plus(zero, vari(1), vari(1))), 5, 1}, {over{others(), list(nat)}, pi(vec(zero), vec(succ(vari(1)))), 5, 1},
	}
	for i, x := range wanted {
		d, y := x.mostGeneral(t, x.a)
		n := 0
		for nodes := range x.nodes + 1 {
			x.small(nodes, func(m api.Term) {
				if x.has(m, x.a) {
					n++
					x.made(t, d, y, m, x.a)
				}
			})
		}
		if n < x.most {
			t.Errorf("%d: %d terms alone", i, n)
		}
	}
}

// small goes through all terms of so many nodes each of which has as many Args as it needs. Each variable is one of the first four.
func (o over) small(nodes int, f func(m api.Term)) {
	if nodes == 0 {
		return
	}
	if nodes == 1 {
		for i := range 4 {
			f(vari(i))
		}
	}
	o.smalls(nodes-1, 1, nil, func(args []api.Term) { f(lam(args[0])) })
	for i, x := range system() {
		asked, end := sign.Split(x.T)
		if end.Kind == api.Fam {
			o.smalls(nodes-1, len(asked), nil, func(args []api.Term) { f(con(i, args...)) })
		}
	}
	for i, x := range o.metas {
		o.smalls(nodes-1, len(x.Ctx), nil, func(args []api.Term) { f(hole(i, args...)) })
	}
}

// smalls goes through all lists of so many of them, behind these, that have so many nodes together.
func (o over) smalls(nodes, n int, ahead []api.Term, f func(args []api.Term)) {
	switch {
	case n == 0 && nodes == 0:
		f(ahead)
	case n > 0:
		for first := range nodes {
			o.small(first+1, func(m api.Term) {
				o.smalls(nodes-first-1, n-1, append(slices.Clone(ahead), m), f)
			})
		}
	}
}

// family is a type that is a Fam, over what there is.
func (d *dice) family(o over) api.Term {
	n, m := d.number(o), d.number(o)
	switch d.below(7) {
	case 0, 1:
		return nat
	case 2:
		return tm
	case 3, 4:
		return vec(n)
	case 5:
		return plus(n, m, d.number(o))
	}
	return list(plus(zero, n, n), plus(succ(zero), n, succ(n)), plus(n, zero, n))[d.below(3)]
}

func (d *dice) number(o over) api.Term {
	n, _ := d.term(o, nat, 2)
	return n
}

// families are a context of so many entries more.
func (d *dice) families(o over, n int) over {
	for range n {
		o = o.more(d.family(o))
	}
	return o
}

// term is a term of a type, if one is found.
func (d *dice) term(o over, a api.Term, deep int) (api.Term, bool) {
	if a.Kind == api.Pi {
		m, is := d.term(o.more(a.Args[0]), a.Args[1], deep)
		return lam(m), is
	}
	there := d.there(o, a, deep)
	if len(there) > 0 && (deep == 0 || d.below(2) == 0) {
		return there[d.below(len(there))], true
	}
	m, is := d.built(o, a, deep)
	if !is && len(there) > 0 {
		return there[d.below(len(there))], true
	}
	return m, is
}

// there are the variables and metas of a type.
func (d *dice) there(o over, a api.Term, deep int) []api.Term {
	var l []api.Term
	for i := range o.ctx {
		if equal(shift.Up(o.ctx[len(o.ctx)-1-i], i+1, 0), a) {
			l = append(l, vari(i))
		}
	}
	for i := range o.metas {
		if m, is := d.meta(o, i, deep); is && o.has(m, a) {
			l = append(l, m)
		}
	}
	return l
}

// meta is one of what there is for its entries.
func (d *dice) meta(o over, i, deep int) (api.Term, bool) {
	m := hole(i)
	for _, entry := range o.metas[i].Ctx {
		want, _ := subst.Apply(entry, api.Subst{L: m.Args, Shift: len(o.ctx)})
		if deep == 0 {
			return m, false
		}
		arg, is := d.term(o, want, deep-1)
		if !is {
			return m, false
		}
		m.Args = append(slices.Clone(m.Args), arg)
	}
	return m, true
}

// built is a Const of a family, if one is found.
func (d *dice) built(o over, a api.Term, deep int) (api.Term, bool) {
	switch {
	case a.Head == natF && (deep == 0 || d.below(3) == 0):
		return zero, true
	case a.Head == natF:
		n, is := d.term(o, nat, deep-1)
		return succ(n), is
	case a.Head == tmF && (deep == 0 || d.below(3) == 0):
		return con(absC, lam(vari(0))), true
	case a.Head == tmF && d.below(2) == 0:
		m, is := d.term(o, pi(tm, tm), deep-1)
		return con(absC, m), is
	case a.Head == tmF:
		m, is := d.term(o, tm, deep-1)
		n, too := d.term(o, tm, deep-1)
		return con(appC, m, n), is && too
	case a.Head == vecF:
		return d.row(o, a.Args[0], deep)
	}
	return d.sum(o, a, deep)
}

func (d *dice) row(o over, n api.Term, deep int) (api.Term, bool) {
	if equal(n, zero) {
		return none, true
	}
	if n.Kind != api.Const || deep == 0 {
		return none, false
	}
	r, is := d.term(o, vec(n.Args[0]), deep-1)
	return next(n.Args[0], d.number(o), r), is
}

func (d *dice) sum(o over, a api.Term, deep int) (api.Term, bool) {
	x, y, z := a.Args[0], a.Args[1], a.Args[2]
	if equal(x, zero) && equal(y, z) {
		return con(pzC, y), true
	}
	if deep == 0 || x.Kind != api.Const || z.Kind != api.Const || len(x.Args)*len(z.Args) != 1 {
		return zero, false
	}
	s, is := d.term(o, plus(x.Args[0], y, z.Args[0]), deep-1)
	return con(psC, x.Args[0], y, z.Args[0], s), is
}

func TestManyMostGeneralTerms(t *testing.T) {
	t.Parallel()
	d := dice(162)
	heads := map[int]int{}
	for n := range 2400 {
		o := d.families(over{others()[:d.below(len(others())+1)], nil}, d.below(5))
		below := d.families(o, n%6)
		a := asking(below.ctx[len(o.ctx):], d.family(below))
		m, x := o.mostGeneral(t, a)
		for range 4 {
			y, is := d.term(o, a, 3)
			if !is {
				continue
			}
			if !o.has(y, a) {
				t.Fatalf("%s has not %s, in %s", short(y), short(a), short(o.ctx))
			}
			o.made(t, m, x, y, a)
			heads[m.T.Head*10+n%6]++
		}
	}
	for _, f := range []int{natF, tmF, vecF, plusF} {
		for n := range 6 {
			if heads[f*10+n] < 20 {
				t.Errorf("%d terms alone of the family %d, behind %d things", heads[f*10+n], f, n)
			}
		}
	}
}

// What the meta makes of anything of its type is of the type, and of nothing else.
func TestWhatTheMetaMakes(t *testing.T) {
	d := dice(163)
	right, others := 0, 0
	for range 6000 {
		o := d.families(over{}, d.below(4))
		below := d.families(o, d.below(4))
		a := asking(below.ctx[len(o.ctx):], d.family(below))
		m, x := o.mostGeneral(t, a)
		body, is := d.term(below, d.family(below), 2)
		if !is {
			continue
		}
		got, e := meta.Fill(x, list(body), len(o.ctx))
		if e != api.OK {
			t.Fatal(e)
		}
		has := metas.Sub(system(), nil, nil, some(m), list(body)) == api.OK
		if has != o.has(got, a) {
			t.Fatalf("%s, in %s: %s is of the meta's type: %v", short(got), short(o.ctx), short(body), has)
		}
		if has {
			right++
		} else {
			others++
		}
	}
	if right < 500 || others < 500 {
		t.Errorf("%d terms, and %d others: too few", right, others)
	}
}

// The term is of the type over that number alone: over another one there is no such meta, or one of another context.
func TestAnotherNumber(t *testing.T) {
	for no := range 5 {
		ctx, a := list(nat), pi(vec(vari(0)), vec(vari(1)))
		d, x, e := general.General(ctx, a, no)
		if e != api.OK {
			t.Fatal(e)
		}
		for at := range 5 {
			l := slices.Repeat(some(metaOf(nat)), 5)
			l[at] = d
			if is := (over{l, ctx}).has(x, a); is != (at == no) {
				t.Errorf("%d, of %d: %v", at, no, is)
			}
			if e := check.Term(system(), l[:no], ctx, x, a); e != api.ErrScope {
				t.Errorf("%d metas, and %d: %d", no, no, e)
			}
		}
	}
}
