package check_test

import (
	"math"
	"slices"
	"testing"

	"amanuensis/api"
	"amanuensis/check"
)

const mostEntries = 1000

var sort = api.Term{Kind: api.Sort}

func node(kind, head int, args ...api.Term) api.Term {
	return api.Term{Kind: kind, Head: head, Args: args}
}

func pi(a, b api.Term) api.Term                { return node(api.Pi, 0, a, b) }
func lam(a api.Term) api.Term                  { return node(api.Lam, 0, a) }
func fam(head int, args ...api.Term) api.Term  { return node(api.Fam, head, args...) }
func vari(head int, args ...api.Term) api.Term { return node(api.Var, head, args...) }
func con(head int, args ...api.Term) api.Term  { return node(api.Const, head, args...) }
func hole(head int, args ...api.Term) api.Term { return node(api.Meta, head, args...) }

func list(l ...api.Term) []api.Term { return l }

func times(n int, t api.Term) []api.Term { return slices.Repeat(list(t), n) }

// pis is a Pi of each, one in the other, the last one to the last one.
func pis(l ...api.Term) api.Term {
	t := l[len(l)-1]
	for _, a := range slices.Backward(l[:len(l)-1]) {
		t = pi(a, t)
	}
	return t
}

// lams is a term below so many Lams.
func lams(n int, t api.Term) api.Term {
	for range n {
		t = lam(t)
	}
	return t
}

func equal(a, b api.Term) bool {
	return a.Kind == b.Kind && a.Head == b.Head && slices.EqualFunc(a.Args, b.Args, equal)
}

// The declarations of system.
const (
	natF   = iota // numbers
	zeroC         // 0
	succC         // and one more
	plusF         // how they are added: of three numbers
	pzC           // 0 and n is n
	psC           // n and m is k: and one more each
	tmF           // terms
	absC          // a function
	appC          // what is applied
	vecF          // rows, of so many
	noneC         // one of none
	nextC         // and one more: of n, a number, and one of n
	atC           // of a function f: one of f 0
	twiceC        // of f, and one of f 0: one of f (f 0)
	declared
)

var (
	nat  = fam(natF)
	tm   = fam(tmF)
	zero = con(zeroC)
	one  = succ(zero)
	fun  = pi(nat, nat)
	self = con(absC, lam(vari(0)))
)

func succ(t api.Term) api.Term       { return con(succC, t) }
func vec(n api.Term) api.Term        { return fam(vecF, n) }
func plus(a, b, c api.Term) api.Term { return fam(plusF, a, b, c) }

// system are declarations that are in order.
func system() []api.Decl {
	l := make([]api.Decl, declared)
	for i, t := range map[int]api.Term{
		natF: sort, zeroC: nat, succC: fun,
		plusF:  pis(nat, nat, nat, sort),
		pzC:    pi(nat, plus(zero, vari(0), vari(0))),
		psC:    pis(nat, nat, nat, plus(vari(2), vari(1), vari(0)), plus(succ(vari(3)), vari(2), succ(vari(1)))),
		tmF:    sort,
		absC:   pi(pi(tm, tm), tm),
		appC:   pis(tm, tm, tm),
		vecF:   pi(nat, sort),
		noneC:  vec(zero),
		nextC:  pis(nat, nat, vec(vari(1)), vec(succ(vari(2)))),
		atC:    pi(fun, vec(vari(0, zero))),
		twiceC: pis(fun, vec(vari(0, zero)), vec(vari(1, vari(1, zero)))),
	} {
		l[i] = api.Decl{Name: string(rune('a' + i)), T: t}
	}
	return l
}

// types are declarations of these types, or kinds.
func types(l ...api.Term) []api.Decl {
	var sig []api.Decl
	for _, t := range l {
		sig = append(sig, api.Decl{Name: "x", T: t})
	}
	return sig
}

// over is what something is checked over, and in which context.
type over struct {
	sig   []api.Decl
	metas []api.MetaDecl
	ctx   []api.Term
}

// in is a context over the system, of its own metas, or of none.
func in(ctx ...api.Term) over { return over{sig: system(), ctx: ctx} }

func (o over) with(metas ...api.MetaDecl) over {
	o.metas = metas
	return o
}

// unknown is a meta of a type, in a context of its own.
func unknown(t api.Term, ctx ...api.Term) api.MetaDecl { return api.MetaDecl{Ctx: ctx, T: t} }

// more is one entry more.
func (o over) more(entry api.Term) over {
	o.ctx = append(slices.Clone(o.ctx), entry)
	return o
}

func (o over) kind(k api.Term) api.Errno    { return check.Kind(o.sig, o.metas, o.ctx, k) }
func (o over) typ(a api.Term) api.Errno     { return check.Type(o.sig, o.metas, o.ctx, a) }
func (o over) term(m, a api.Term) api.Errno { return check.Term(o.sig, o.metas, o.ctx, m, a) }

// judge is something that is checked as a term of a type, and what is told.
type judge struct {
	name string
	over
	m, a api.Term
	e    api.Errno
}

func holdTerms(t *testing.T, l ...judge) {
	t.Helper()
	for _, x := range l {
		if e := x.term(x.m, x.a); e != x.e {
			t.Errorf("%s: %v in %v, of %v: %v, not %v", x.name, x.m, x.ctx, x.a, e, x.e)
		}
	}
}

// formed is something that is checked as a type and as a kind, and what is told of both.
type formed struct {
	name string
	over
	t         api.Term
	typ, kind api.Errno
}

func holdFormed(t *testing.T, l ...formed) {
	t.Helper()
	for _, x := range l {
		if e := x.over.typ(x.t); e != x.typ {
			t.Errorf("%s: %v in %v, a type: %v, not %v", x.name, x.t, x.ctx, e, x.typ)
		}
		if e := x.over.kind(x.t); e != x.kind {
			t.Errorf("%s: %v in %v, a kind: %v, not %v", x.name, x.t, x.ctx, e, x.kind)
		}
	}
}

func TestTheSystemIsInOrder(t *testing.T) {
	sig := system()
	for i, d := range sig {
		o := over{sig: sig[:i]}
		kind := slices.Contains([]int{natF, plusF, tmF, vecF}, i)
		typ, k := o.typ(d.T), o.kind(d.T)
		if kind && (typ != api.ErrType || k != api.OK) || !kind && (typ != api.OK || k != api.ErrType) {
			t.Errorf("%d: %v, as a type %v, as a kind %v", i, d.T, typ, k)
		}
	}
}

// The chapter's examples.
func TestExamples(t *testing.T) {
	holdTerms(t,
		judge{"s z", in(), one, nat, api.OK},
		judge{"s alone", in(), con(succC), nat, api.ErrType},
		judge{"s alone, of what it is declared of", in(), con(succC), fun, api.ErrType},
		judge{"Lam of s of Var 0", in(), lam(succ(vari(0))), fun, api.OK},
	)
}

// P10.1 and P10.2

// wrong is what may be no type, nor a kind.
func wrong() map[string]api.Term {
	return map[string]api.Term{
		"Lam":             lam(vari(0)),
		"Lam of Sort":     lam(sort),
		"Lam of a type":   lam(nat),
		"Var":             vari(0),
		"Var of an Arg":   vari(0, zero),
		"no such Var":     vari(99),
		"Const":           zero,
		"Const of a Fam":  con(natF),
		"Const of a Sort": con(succC, sort),
		"no such Const":   con(99),
		"Meta":            hole(0),
		"no such Meta":    hole(99),
	}
}

func TestKindsAndTypes(t *testing.T) {
	o := in(nat)
	holdFormed(t,
		formed{"Sort", o, sort, api.ErrType, api.OK},
		formed{"Fam", o, nat, api.OK, api.ErrType},
		formed{"Pi to a Sort", o, pi(nat, sort), api.ErrType, api.OK},
		formed{"Pi to a Fam", o, fun, api.OK, api.ErrType},
		formed{"Pis to a Sort", o, pis(nat, tm, pi(tm, nat), sort), api.ErrType, api.OK},
		formed{"Pis to a Fam", o, pis(nat, tm, pi(tm, nat), tm), api.OK, api.ErrType},
		formed{"Pi of a Sort", o, pi(sort, sort), api.ErrType, api.ErrType},
		formed{"Pi of a Sort, to a Fam", o, pi(sort, nat), api.ErrType, api.ErrType},
		formed{"Pi of a kind", o, pi(pi(nat, sort), sort), api.ErrType, api.ErrType},
		formed{"Pi of a kind, to a Fam", o, pi(pi(nat, sort), nat), api.ErrType, api.ErrType},
		formed{"Pi of a kind, behind", o, pis(nat, sort, nat), api.ErrType, api.ErrType},
		formed{"Pi of a Pi", o, pis(pis(fun, fun, tm), sort), api.ErrType, api.OK},
		formed{"Pi of a Pi, to a Fam", o, pis(pis(fun, fun, tm), nat), api.OK, api.ErrType},
		formed{"the Pi's own entry", o, pis(nat, vec(vari(0)), sort), api.ErrType, api.OK},
		formed{"the Pi's own entry, to a Fam", o, pis(nat, vec(vari(0)), vec(vari(1))), api.OK, api.ErrType},
		formed{"the Pi's own entry, of another type", o, pis(tm, vec(vari(0)), sort), api.ErrType, api.ErrType},
		formed{"the entry around", o, pis(tm, vec(vari(1)), sort), api.ErrType, api.OK},
		formed{"the entry around, to a Fam", o, pis(tm, tm, tm, vec(vari(3))), api.OK, api.ErrType},
		formed{"an entry too far", o, pis(tm, vec(vari(2)), sort), api.ErrScope, api.ErrScope},
		formed{"an entry too far, to a Fam", o, pis(tm, tm, tm, vec(vari(4))), api.ErrScope, api.ErrType},
		formed{"the entry is not bound in the first Arg", in(), pi(vec(vari(0)), sort), api.ErrScope, api.ErrScope},
		formed{"the first Arg's entry is gone behind it", in(), pi(pi(nat, nat), vec(vari(1))), api.ErrScope, api.ErrType},
		formed{"the first Arg ahead of the second one", o, pi(fam(99), zero), api.ErrScope, api.ErrScope},
		formed{"the first Arg ahead of the second one, turned", o, pi(zero, fam(99)), api.ErrType, api.ErrType},
		formed{"the second Arg as well", o, pi(nat, fam(99)), api.ErrScope, api.ErrType},
		formed{"the first Arg of three", o, pis(fam(99), sort, zero), api.ErrScope, api.ErrScope},
		formed{"the second Arg of three", o, pis(nat, fam(99), zero), api.ErrScope, api.ErrScope},
	)
	for name, x := range wrong() {
		o := in(nat).with(unknown(nat))
		holdFormed(t,
			formed{name, o, x, api.ErrType, api.ErrType},
			formed{name + ", behind a Pi", o, pi(nat, x), api.ErrType, api.ErrType},
			formed{name + ", ahead of a Sort", o, pi(x, sort), api.ErrType, api.ErrType},
			formed{name + ", ahead of a Fam", o, pi(x, nat), api.ErrType, api.ErrType},
			formed{name + ", within a Pi", o, pis(nat, pi(tm, x), sort), api.ErrType, api.ErrType},
		)
	}
}

// Pis as deep as a term may be.
func TestManyPis(t *testing.T) {
	var l []api.Term
	for i := range api.MaxDepth - 2 {
		l = append(l, nat)
		holdFormed(t,
			formed{"to a Sort", in(), pis(append(l, sort)...), api.ErrType, api.OK},
			formed{"to the first one", in(), pis(append(l, vec(vari(i)))...), api.OK, api.ErrType},
			formed{"to none", in(), pis(append(l, vec(vari(i+1)))...), api.ErrScope, api.ErrType},
		)
	}
}

// P10.2

func TestFam(t *testing.T) {
	o := in(nat, tm, vec(vari(1)), fun)
	for name, x := range map[string]formed{
		"of no Args":             {t: nat, typ: api.OK},
		"of one too many":        {t: fam(natF, zero), typ: api.ErrType},
		"of one":                 {t: vec(zero), typ: api.OK},
		"of one too few":         {t: fam(vecF), typ: api.ErrType},
		"of one too many of one": {t: fam(vecF, zero, zero), typ: api.ErrType},
		"of three":               {t: plus(zero, one, vari(3)), typ: api.OK},
		"two of three":           {t: fam(plusF, zero, one), typ: api.ErrType},
		"one of three":           {t: fam(plusF, zero), typ: api.ErrType},
		"none of three":          {t: fam(plusF), typ: api.ErrType},
		"four of three":          {t: fam(plusF, zero, one, zero, one), typ: api.ErrType},
		"a variable applied":     {t: vec(vari(0, zero)), typ: api.OK},
		"a variable alone":       {t: vec(vari(0)), typ: api.ErrType},
		"of another type":        {t: vec(self), typ: api.ErrType},
		"of a type":              {t: vec(nat), typ: api.ErrType},
		"of a Lam":               {t: vec(lam(vari(0))), typ: api.ErrType},
		"the last of three":      {t: plus(zero, one, self), typ: api.ErrType},
		"no such one":            {t: fam(declared), typ: api.ErrScope},
		"the greatest":           {t: fam(math.MaxInt), typ: api.ErrScope},
		"no such one, of Args":   {t: fam(declared, zero, con(99)), typ: api.ErrScope},
		"no kind":                {t: fam(zeroC), typ: api.ErrScope},
		"no kind, of Args":       {t: fam(succC, zero), typ: api.ErrScope},
		"no kind, of wrong ones": {t: fam(succC, self, self), typ: api.ErrScope},
		"no kind, the last one":  {t: fam(declared - 1), typ: api.ErrScope},
		"an Arg's scope":         {t: vec(con(99)), typ: api.ErrScope},
		"an Arg's variable":      {t: vec(vari(4)), typ: api.ErrScope},
		"the first of three":     {t: plus(self, con(99), con(99)), typ: api.ErrType},
		"the second of three":    {t: plus(zero, con(99), self), typ: api.ErrScope},
		"an Arg ahead of many":   {t: fam(vecF, con(99), zero), typ: api.ErrScope},
		"many ahead of an Arg":   {t: fam(vecF, zero, con(99)), typ: api.ErrType},
		"an Arg ahead of few":    {t: fam(plusF, con(99)), typ: api.ErrScope},
	} {
		x.name, x.over, x.kind = name, o, api.ErrType
		holdFormed(t, x)
	}
}

// A kind may hang on what it is of: the second thing of this one is a row, of as many as the first one tells.
func TestAKindThatHangsOnItsArgs(t *testing.T) {
	o := in()
	o.sig = append(o.sig, types(pis(nat, vec(vari(0)), sort), pis(fun, vec(vari(0, vari(0, zero))), pis(nat, nat, sort)))...)
	next := con(nextC, zero, zero, con(noneC))
	holdFormed(t,
		formed{"of 0", o, fam(declared, zero, con(noneC)), api.OK, api.ErrType},
		formed{"of 1", o, fam(declared, one, next), api.OK, api.ErrType},
		formed{"of 0, with 1", o, fam(declared, zero, next), api.ErrType, api.ErrType},
		formed{"of 1, with 0", o, fam(declared, one, con(noneC)), api.ErrType, api.ErrType},
		formed{"of a function", o, fam(declared+1, lam(vari(0)), con(noneC), zero, zero), api.OK, api.ErrType},
		formed{"of a function that tells 0", o, fam(declared+1, lam(zero), con(noneC), zero, zero), api.OK, api.ErrType},
		formed{"of a function that tells 1", o, fam(declared+1, lam(one), next, zero, zero), api.OK, api.ErrType},
		formed{"of a function that tells one more", o, fam(declared+1, lam(succ(vari(0))), next, zero, zero), api.ErrType, api.ErrType},
	)
}

// P10.3: Lam

func TestLam(t *testing.T) {
	o := in(tm, vec(zero))
	holdTerms(t,
		judge{"itself", o, lam(vari(0)), fun, api.OK},
		judge{"a constant one", o, lam(zero), fun, api.OK},
		judge{"of an entry around", o, lam(vari(2)), pi(nat, tm), api.OK},
		judge{"of an entry around, of another type", o, lam(vari(2)), fun, api.ErrType},
		judge{"itself, of another type", o, lam(vari(0)), pi(tm, nat), api.ErrType},
		judge{"an entry too far", o, lam(vari(3)), fun, api.ErrScope},
		judge{"two", o, lams(2, vari(1)), pis(tm, nat, tm), api.OK},
		judge{"two, the other one", o, lams(2, vari(0)), pis(tm, nat, tm), api.ErrType},
		judge{"two, against one", o, lams(2, vari(1)), fun, api.ErrType},
		judge{"one, against two", o, lam(vari(0)), pis(nat, nat, nat), api.ErrType},
		judge{"of a Pi", o, lam(vari(0, zero)), pi(fun, nat), api.OK},
		judge{"of a Pi, alone", o, lam(vari(0)), pi(fun, fun), api.ErrType},
		judge{"of a Pi, a Lam", o, lams(2, vari(1, vari(0))), pi(fun, fun), api.OK},
		judge{"the type hangs on the entry", o, lam(con(pzC, vari(0))), pi(nat, plus(zero, vari(0), vari(0))), api.OK},
		judge{"the type hangs on another one", o, lams(2, con(pzC, vari(0))), pis(nat, nat, plus(zero, vari(1), vari(1))), api.ErrType},
		judge{"the entry hangs on the one ahead", o, lams(2, vari(0)), pis(nat, vec(vari(0)), vec(vari(1))), api.OK},
		judge{"the entry hangs on the one ahead, not up", o, lams(2, vari(0)), pis(nat, vec(vari(0)), vec(vari(0))), api.ErrType},
		judge{"the entry need be no type", o, lam(zero), pi(fam(99), nat), api.OK},
		judge{"the entry need be no type, a Sort", o, lam(zero), pi(sort, nat), api.OK},
		judge{"the type need be no type", o, lam(vari(0)), pi(fam(99), fam(99)), api.OK},
		judge{"the type may be no Fam", o, lam(vari(0)), pi(sort, sort), api.ErrType},
		judge{"an Arg's scope", o, lam(succ(con(99))), fun, api.ErrScope},
		judge{"no Pi ahead of an Arg's scope", o, lam(con(99)), nat, api.ErrType},
		judge{"what is in it against a Pi", o, lam(con(99)), pis(nat, nat, nat), api.ErrType},
	)
	for name, a := range map[string]api.Term{"Sort": sort, "Fam": nat, "Fam of Args": vec(zero), "no such Fam": fam(99), "Lam": lam(nat), "Var": vari(0), "Const": con(0), "Meta": hole(0)} {
		holdTerms(t,
			judge{"against " + name, o, lam(vari(0)), a, api.ErrType},
			judge{"against " + name + ", wrong in it", o, lam(con(99)), a, api.ErrType},
			judge{"against " + name + ", within", o, lams(2, vari(0)), pi(nat, a), api.ErrType},
		)
	}
}

// What is no Lam has a type only if that is a Fam, and that is asked first.
func TestAgainstWhatIsNoFam(t *testing.T) {
	o := in(nat, fun).with(unknown(nat), unknown(fun))
	for name, m := range map[string]api.Term{"Var": vari(1), "Var of a Pi": vari(0), "no such Var": vari(2), "Const": zero, "Const of a Pi": con(succC), "no such Const": con(99), "a kind": con(natF), "wrong Args": succ(con(99)), "Meta": hole(0), "Meta of a Pi": hole(1), "no such Meta": hole(2), "Sort": sort, "Pi": fun, "Fam": nat} {
		for against, a := range map[string]api.Term{"Sort": sort, "Pi": fun, "Pi to a Sort": pi(nat, sort), "Lam": lam(vari(0)), "Var": vari(0), "Const": zero, "Meta": hole(0)} {
			holdTerms(t, judge{name + " against " + against, o, m, a, api.ErrType})
		}
	}
}

func TestWhatIsNoTerm(t *testing.T) {
	o := in(nat).with(unknown(nat))
	for name, m := range map[string]api.Term{"Sort": sort, "Pi": fun, "Pi to a Sort": pi(nat, sort), "Pi of wrong ones": pi(con(99), con(99)), "Fam": nat, "Fam of Args": vec(zero), "Fam of wrong ones": vec(con(99)), "no such Fam": fam(99)} {
		holdTerms(t,
			judge{name, o, m, nat, api.ErrType},
			judge{name + ", of itself", o, m, m, api.ErrType},
			judge{name + ", of no such Fam", o, m, fam(99), api.ErrType},
			judge{name + ", as an Arg", o, succ(m), nat, api.ErrType},
			judge{name + ", in a Lam", o, lam(m), fun, api.ErrType},
			judge{name + ", of a Meta", o.with(unknown(nat, nat)), hole(0, m), nat, api.ErrType},
			judge{name + ", ahead of a wrong one", o, con(appC, m, con(99)), tm, api.ErrType},
			judge{name + ", behind a wrong one", o, con(appC, con(99), m), tm, api.ErrScope},
		)
	}
}

// P10.3: Var

func TestVar(t *testing.T) {
	o := in(nat, vec(vari(0)), fun, pis(nat, vec(vari(0)), plus(vari(4), vari(1), vari(1))), vec(vari(1, vari(3))))
	row := con(nextC, vari(4), zero, vari(3))
	holdTerms(t,
		judge{"the first one", o, vari(4), nat, api.OK},
		judge{"the second one", o, vari(3), vec(vari(4)), api.OK},
		judge{"the second one, not up", o, vari(3), vec(vari(0)), api.ErrType},
		judge{"the second one, up by too few", o, vari(3), vec(vari(3)), api.ErrType},
		judge{"the last one", o, vari(0), vec(vari(2, vari(4))), api.OK},
		judge{"a Pi applied", o, vari(2, vari(4)), nat, api.OK},
		judge{"a Pi applied twice", o, vari(2, vari(2, vari(4))), nat, api.OK},
		judge{"a Pi alone", o, vari(2), nat, api.ErrType},
		judge{"a Pi alone, of its Pi", o, vari(2), fun, api.ErrType},
		judge{"a Pi with one Arg more", o, vari(2, zero, zero), nat, api.ErrType},
		judge{"a Fam applied", o, vari(4, zero), nat, api.ErrType},
		judge{"of another type", o, vari(4), tm, api.ErrType},
		judge{"of another one's type", o, vari(3), vec(zero), api.ErrType},
		judge{"an Arg of another type", o, vari(2, self), nat, api.ErrType},
		judge{"an Arg's scope", o, vari(2, vari(5)), nat, api.ErrScope},
		judge{"an Arg ahead of many", o, vari(2, vari(5), zero), nat, api.ErrScope},
		judge{"many ahead of an Arg", o, vari(2, zero, vari(5)), nat, api.ErrType},
		judge{"two Args", o, vari(1, vari(4), vari(3)), plus(vari(4), vari(4), vari(4)), api.OK},
		judge{"two Args, turned", o, vari(1, vari(3), vari(4)), plus(vari(4), vari(3), vari(3)), api.ErrType},
		judge{"too far", o, vari(5), nat, api.ErrScope},
		judge{"too far, with wrong Args", o, vari(5, sort, con(99)), nat, api.ErrScope},
		judge{"the greatest", o, vari(math.MaxInt), nat, api.ErrScope},
		judge{"the first of none", in(), vari(0), nat, api.ErrScope},
		judge{"as an Arg", o, row, vec(succ(vari(4))), api.OK},
	)
	// An entry that is of the ones ahead, with two Args of which the second one hangs on the first one.
	o = in(nat, pis(nat, vec(vari(0)), plus(vari(2), vari(1), vari(1))))
	holdTerms(t,
		judge{"two Args", o, vari(0, zero, con(noneC)), plus(vari(1), zero, zero), api.OK},
		judge{"two Args, of another type", o, vari(0, zero, con(noneC)), plus(vari(0), zero, zero), api.ErrType},
		judge{"two Args, the second one of another type", o, vari(0, one, con(noneC)), plus(vari(1), one, one), api.ErrType},
		judge{"one of two Args", o, vari(0, zero), plus(vari(1), zero, zero), api.ErrType},
		judge{"an entry", o.more(vec(vari(1))), vari(1, vari(2), vari(0)), plus(vari(2), vari(2), vari(2)), api.OK},
		judge{"an entry, up", o.more(vec(vari(1))).more(tm), vari(2, vari(3), vari(1)), plus(vari(3), vari(3), vari(3)), api.OK},
	)
}

// Each entry of many is of its own row.
func TestEachEntryOfMany(t *testing.T) {
	for _, n := range []int{2, 5, 40, 999, mostEntries} {
		ctx := list(nat)
		for len(ctx) < n {
			ctx = append(ctx, vec(vari(len(ctx)-1)))
		}
		o := in(ctx...)
		for _, i := range []int{0, 1, n / 2, n - 2} {
			holdTerms(t,
				judge{"an entry", o, vari(i), vec(vari(n - 1)), map[bool]api.Errno{true: api.OK, false: api.ErrType}[i < n-1]},
				judge{"below a Lam", o, lam(vari(i + 1)), pi(tm, vec(vari(n))), map[bool]api.Errno{true: api.OK, false: api.ErrType}[i < n-1]},
				judge{"of itself", o, vari(i), vec(vari(i)), api.ErrType},
			)
		}
		holdTerms(t, judge{"the first one", o, vari(n - 1), nat, api.OK}, judge{"none", o, vari(n), nat, api.ErrScope}, judge{"none below a Lam", o, lam(vari(n + 1)), fun, api.ErrScope})
	}
}

// P10.3: Const

func TestConst(t *testing.T) {
	none, o := con(noneC), in(nat)
	next := func(n, row api.Term) api.Term { return con(nextC, n, vari(0), row) }
	holdTerms(t,
		judge{"alone", o, zero, nat, api.OK},
		judge{"alone, of another type", o, zero, tm, api.ErrType},
		judge{"alone, of another row", o, none, vec(one), api.ErrType},
		judge{"with an Arg", o, succ(succ(vari(0))), nat, api.OK},
		judge{"with two", o, con(appC, self, self), tm, api.OK},
		judge{"with one of two", o, con(appC, self), tm, api.ErrType},
		judge{"with three of two", o, con(appC, self, self, self), tm, api.ErrType},
		judge{"with a Lam", o, con(absC, lam(con(appC, vari(0), vari(0)))), tm, api.OK},
		judge{"with a Lam of another type", o, con(absC, lam(zero)), tm, api.ErrType},
		judge{"with no Lam", o, con(absC, self), tm, api.ErrType},
		judge{"with two Lams", o, con(absC, lams(2, vari(0))), tm, api.ErrType},
		judge{"a Fam applied", o, con(zeroC, zero), nat, api.ErrType},
		judge{"a type that hangs on the Args", o, next(zero, none), vec(one), api.OK},
		judge{"more of these", o, next(one, next(zero, none)), vec(succ(one)), api.OK},
		judge{"of a variable", o, next(vari(0), next(zero, none)), vec(succ(vari(0))), api.ErrType},
		judge{"of a wrong row", o, next(one, none), vec(succ(one)), api.ErrType},
		judge{"of another row than it comes to", o, next(zero, none), vec(zero), api.ErrType},
		judge{"0 and 1", o, con(pzC, one), plus(zero, one, one), api.OK},
		judge{"0 and 1 is 0", o, con(pzC, one), plus(zero, one, zero), api.ErrType},
		judge{"1 and 1", o, con(psC, zero, one, one, con(pzC, one)), plus(one, one, succ(one)), api.OK},
		judge{"1 and 1 by a wrong proof", o, con(psC, zero, one, one, con(pzC, zero)), plus(one, one, succ(one)), api.ErrType},
		judge{"1 and 1 by wrong numbers", o, con(psC, zero, one, zero, con(pzC, one)), plus(one, one, one), api.ErrType},
		judge{"no such one", o, con(declared), nat, api.ErrScope},
		judge{"the greatest", o, con(math.MaxInt), nat, api.ErrScope},
		judge{"no such one, with wrong Args", o, con(declared, sort), nat, api.ErrScope},
		judge{"a kind", o, con(natF), nat, api.ErrScope},
		judge{"a kind with Args", o, con(vecF, zero), nat, api.ErrScope},
		judge{"a kind with wrong Args", o, con(plusF, self, sort), nat, api.ErrScope},
		judge{"without a signature", over{}, zero, nat, api.ErrScope},
	)
}

// A function that is an Arg leaves nothing to reduce in the type.
func TestATypeThatIsReduced(t *testing.T) {
	o, none := in(nat), con(noneC)
	double := con(nextC, zero, zero, none)
	holdTerms(t,
		judge{"itself", o, con(atC, lam(vari(0))), vec(zero), api.OK},
		judge{"itself, not reduced", o, con(atC, lam(vari(0))), vec(one), api.ErrType},
		judge{"one more", o, con(atC, lam(succ(vari(0)))), vec(one), api.OK},
		judge{"an entry", o, con(atC, lam(vari(1))), vec(vari(0)), api.OK},
		judge{"of itself, twice", o, con(twiceC, lam(vari(0)), none), vec(zero), api.OK},
		judge{"of one more, twice", o, con(twiceC, lam(succ(vari(0))), double), vec(succ(one)), api.OK},
		judge{"of one more, of a wrong row", o, con(twiceC, lam(succ(vari(0))), none), vec(succ(one)), api.ErrType},
		judge{"of one that tells 0", o, con(twiceC, lam(zero), none), vec(zero), api.OK},
		judge{"a variable's type", o.more(pis(fun, vec(vari(0, zero)))), vari(0, lam(succ(vari(0)))), vec(one), api.OK},
		judge{"of a variable", o.more(fun), con(atC, lam(vari(1, vari(0)))), vec(vari(0, zero)), api.OK},
		judge{"of a variable, in its Arg", o.more(fun), con(twiceC, lam(vari(1, vari(0))), con(atC, lam(vari(1, vari(0))))), vec(vari(0, vari(0, zero))), api.OK},
	)
}

// P10.3: Meta

func TestMeta(t *testing.T) {
	o := in(nat, tm).with(
		unknown(nat),
		unknown(tm, tm),
		unknown(vec(vari(1)), nat, vec(vari(0))),
		unknown(plus(vari(1), vari(0, vari(1)), zero), nat, pi(nat, nat)),
		unknown(vec(vari(0)), nat, vec(vari(0)), nat),
	)
	none := con(noneC)
	holdTerms(t,
		judge{"in an empty context", o, hole(0), nat, api.OK},
		judge{"in an empty context, of another type", o, hole(0), tm, api.ErrType},
		judge{"with an Arg too many", o, hole(0, zero), nat, api.ErrType},
		judge{"with wrong ones too many", o, hole(0, con(99)), nat, api.ErrType},
		judge{"with an Arg", o, hole(1, vari(0)), tm, api.OK},
		judge{"with another one", o, hole(1, con(appC, self, vari(0))), tm, api.OK},
		judge{"with one of another type", o, hole(1, vari(1)), tm, api.ErrType},
		judge{"with an Arg too few", o, hole(1), tm, api.ErrType},
		judge{"with an Arg twice", o, hole(1, vari(0), vari(0)), tm, api.ErrType},
		judge{"with a wrong one twice", o, hole(1, con(99), con(99)), tm, api.ErrType},
		judge{"with an Arg's scope", o, hole(1, vari(2)), tm, api.ErrScope},
		judge{"in a context that hangs on itself", o, hole(2, zero, none), vec(zero), api.OK},
		judge{"in one that does, of a variable", o.more(vec(vari(1))), hole(2, vari(2), vari(0)), vec(vari(2)), api.OK},
		judge{"in one that does, below Lams", o, lams(2, hole(2, vari(3), vari(1))), pis(vec(vari(1)), nat, vec(vari(3))), api.OK},
		judge{"in one that does, of another type", o, hole(2, one, none), vec(one), api.ErrType},
		judge{"in one that does, and comes to another one", o, hole(2, zero, none), vec(one), api.ErrType},
		judge{"with a Lam", o, hole(3, one, lam(vari(0))), plus(one, one, zero), api.OK},
		judge{"with a Lam that is reduced", o, hole(3, one, lam(succ(vari(0)))), plus(one, succ(one), zero), api.OK},
		judge{"with no Lam", o, hole(3, one, con(succC)), plus(one, succ(one), zero), api.ErrType},
		judge{"with three", o, hole(4, zero, none, one), vec(one), api.OK},
		judge{"with three, of the first one", o, hole(4, zero, none, one), vec(zero), api.ErrType},
		judge{"the first Arg's error", o, hole(2, con(99), self), vec(zero), api.ErrScope},
		judge{"the second Arg's error", o, hole(2, zero, con(99)), vec(zero), api.ErrScope},
		judge{"the first Arg's error ahead of the second one's", o, hole(2, self, con(99)), vec(zero), api.ErrType},
		judge{"the third Arg's", o, hole(4, zero, none, con(99)), vec(one), api.ErrScope},
		judge{"a meta within", o, hole(1, hole(1, hole(1, vari(0)))), tm, api.OK},
		judge{"a meta within, wrong", o, hole(1, hole(1, hole(5))), tm, api.ErrScope},
		judge{"no such one", o, hole(5), nat, api.ErrScope},
		judge{"no such one, with wrong Args", o, hole(5, sort), nat, api.ErrScope},
		judge{"the greatest", o, hole(math.MaxInt), nat, api.ErrScope},
		judge{"of none", in(), hole(0), nat, api.ErrScope},
		judge{"of a type that is no Fam", o.with(unknown(fun)), hole(0), nat, api.ErrType},
		judge{"in a type", o, con(pzC, hole(0)), plus(zero, hole(0), hole(0)), api.OK},
		judge{"in a type, another one", o.with(unknown(nat), unknown(nat)), con(pzC, hole(0)), plus(zero, hole(0), hole(1)), api.ErrType},
	)
	holdFormed(t,
		formed{"a type of a meta", o, vec(hole(0)), api.OK, api.ErrType},
		formed{"a type of a meta of another type", o, vec(hole(1, vari(0))), api.ErrType, api.ErrType},
		formed{"a type of no meta", o, vec(hole(5)), api.ErrScope, api.ErrType},
	)
}

// What a meta's context, and its type, have behind its own entries is of the context around: behind all entries of the context.
func TestWhatIsAroundAMeta(t *testing.T) {
	for _, n := range []int{1, 3, 7, mostEntries} {
		// Of the context around, behind n - 1 entries, the variable 4.
		last := vec(vari(n - 1 + 4))
		o := in(append(times(n-1, nat), last)...).with(unknown(vec(vari(3)), nat, nat), unknown(vec(vari(0)), vec(vari(4)), nat))
		holdTerms(t,
			judge{"its type", o, hole(0, zero, one), vec(vari(n + 1)), api.OK},
			judge{"its type, not up", o, hole(0, zero, one), vec(vari(3)), api.ErrType},
			judge{"its type, up by one too many", o, hole(0, zero, one), vec(vari(n + 2)), api.ErrType},
			judge{"its type, below two Lams", o, lams(2, hole(0, zero, one)), pis(nat, tm, vec(vari(n+3))), api.OK},
			judge{"an entry of its", o, hole(1, vari(0), zero), vec(zero), api.OK},
			judge{"an entry of its, below a Lam", o, lam(hole(1, vari(1), vari(0))), pi(nat, vec(vari(0))), api.OK},
			judge{"an entry of its, of another type", o, lam(hole(1, vari(0), zero)), pi(last, vec(zero)), api.ErrType},
		)
	}
}

// What comes to another type than the one that is asked: a change to any node of it is seen.
func TestAnotherTypeThanTheOneAsked(t *testing.T) {
	o := in(nat, fun).with(unknown(plus(vari(0), succ(vari(0)), vari(0)), nat))
	for name, x := range map[string]struct{ m, a api.Term }{
		"Var":   {vari(0), plus(vari(2, zero), vari(1), con(psC, hole(0), lam(vari(0))))},
		"Const": {con(pzC, vari(0, vari(1))), plus(zero, vari(0, vari(1)), vari(0, vari(1)))},
		"Meta":  {hole(0, succ(vari(1))), plus(succ(vari(1)), succ(succ(vari(1))), succ(vari(1)))},
	} {
		o := o
		if name == "Var" {
			// A variable's entry may be anything: here what is asked, in the entries ahead of it.
			o = in(nat, fun, plus(vari(1, zero), vari(0), con(psC, hole(0), lam(vari(0)))))
		}
		holdTerms(t, judge{name, o, x.m, x.a, api.OK})
		for _, y := range changed(x.a) {
			if e := o.term(x.m, y); e != api.ErrType {
				t.Errorf("%s: %v, of %v: %v", name, x.m, y, e)
			}
		}
	}
}

// changed are terms with one change: of a Head, of an Arg too many, or of one too few.
func changed(t api.Term) []api.Term {
	var l []api.Term
	if t.Kind != api.Lam && t.Kind != api.Pi && t.Kind != api.Sort {
		l = append(l, node(t.Kind, t.Head+1, t.Args...), node(t.Kind, t.Head, append(slices.Clone(t.Args), zero)...))
		if len(t.Args) > 0 {
			l = append(l, node(t.Kind, t.Head, t.Args[1:]...), node(t.Kind, t.Head, t.Args[:len(t.Args)-1]...))
		}
	}
	for i, a := range t.Args {
		for _, x := range changed(a) {
			args := slices.Clone(t.Args)
			args[i] = x
			l = append(l, node(t.Kind, t.Head, args...))
		}
	}
	return l
}
