package world_test

import (
	"fmt"
	"math"
	"slices"
	"testing"

	"amanuensis/api"
	"amanuensis/world"
)

const mostEntries = 1000

var sort = api.Term{Kind: api.Sort}

func node(kind, head int, args ...api.Term) api.Term {
	return api.Term{Kind: kind, Head: head, Args: args}
}

func pi(a, b api.Term) api.Term                { return node(api.Pi, 0, a, b) }
func lam(a api.Term) api.Term                  { return node(api.Lam, 0, a) }
func fam(head int, args ...api.Term) api.Term  { return node(api.Fam, head, args...) }
func vari(head int, args ...api.Term) api.Term { return node(api.Var, head, args...) }
func con(head int, args ...api.Term) api.Term  { return node(api.Const, head, args...) }
func hole(head int, args ...api.Term) api.Term { return node(api.Meta, head, args...) }

func list(l ...api.Term) []api.Term { return l }

func times(n int, t api.Term) []api.Term { return slices.Repeat(list(t), n) }

// pis is a Pi of each, one in the other, the last one to the last one.
func pis(l ...api.Term) api.Term {
	t := l[len(l)-1]
	for _, a := range slices.Backward(l[:len(l)-1]) {
		t = pi(a, t)
	}
	return t
}

func equal(a, b api.Term) bool {
	return a.Kind == b.Kind && a.Head == b.Head && slices.EqualFunc(a.Args, b.Args, equal)
}

// The declarations of system.
const (
	natF  = iota // numbers
	zeroC        // 0
	succC        // and one more
	plusF        // how they are added: of three numbers
	pzC          // 0 and n is n
	psC          // n and m is k: and one more each
	tmF          // terms
	absC         // a function
	appC         // what is applied
	vecF         // rows, of so many
	noneC        // one of none
	nextC        // and one more: of n, a number, and one of n
	declared
)

var (
	nat  = fam(natF)
	tm   = fam(tmF)
	zero = con(zeroC)
	one  = succ(zero)
	self = con(absC, lam(vari(0)))
)

func succ(t api.Term) api.Term       { return con(succC, t) }
func vec(n api.Term) api.Term        { return fam(vecF, n) }
func plus(a, b, c api.Term) api.Term { return fam(plusF, a, b, c) }

// system are declarations that are in order.
func system() []api.Decl {
	return types(
		sort, nat, pi(nat, nat),
		pis(nat, nat, nat, sort),
		pi(nat, plus(zero, vari(0), vari(0))),
		pis(nat, nat, nat, plus(vari(2), vari(1), vari(0)), plus(succ(vari(3)), vari(2), succ(vari(1)))),
		sort, pi(pi(tm, tm), tm), pis(tm, tm, tm),
		pi(nat, sort), vec(zero), pis(nat, nat, vec(vari(1)), vec(succ(vari(2)))),
	)
}

// types are declarations of these types, or kinds.
func types(l ...api.Term) []api.Decl {
	var sig []api.Decl
	for i, t := range l {
		sig = append(sig, api.Decl{Name: fmt.Sprint("x", i), T: t})
	}
	return sig
}

// unknown is a meta of a type, in a context of its own.
func unknown(t api.Term, ctx ...api.Term) api.MetaDecl { return api.MetaDecl{Ctx: ctx, T: t} }

// place is what Sig tells: of which declaration, and what.
type place struct {
	at int
	e  api.Errno
}

var right = place{}

func holdSig(t *testing.T, name string, sig []api.Decl, want place) {
	t.Helper()
	if at, e := world.Sig(sig); at != want.at || e != want.e {
		t.Errorf("%s: %d, %v, not %d, %v", name, at, e, want.at, want.e)
	}
}

// behind is a context behind another one, over what there is.
type behind struct {
	sig         []api.Decl
	metas       []api.MetaDecl
	around, ctx []api.Term
}

// in is a context over the system, with nothing around and no metas.
func in(ctx ...api.Term) behind { return behind{sig: system(), ctx: ctx} }

func (b behind) with(metas ...api.MetaDecl) behind {
	b.metas = metas
	return b
}

func (b behind) near(around ...api.Term) behind {
	b.around = around
	return b
}

func (b behind) tell() api.Errno { return world.Ctx(b.sig, b.metas, b.around, b.ctx) }

// few are the last ones of many terms: what is told of a list with an error.
func few(l []api.Term) string {
	return fmt.Sprintf("%d, to %v", len(l), upper(l[max(0, len(l)-10):], 5))
}

// upper are the upper nodes of terms: one that may not be may have no end.
func upper(l []api.Term, depth int) []api.Term {
	if depth == 0 {
		return nil
	}
	l = slices.Clone(l[:min(len(l), 10)])
	for i := range l {
		l[i].Args = upper(l[i].Args[:min(len(l[i].Args), 3)], depth-1)
	}
	return l
}

func holdCtx(t *testing.T, name string, b behind, want api.Errno) {
	t.Helper()
	if e := b.tell(); e != want {
		t.Errorf("%s: %s, behind %s: %v, not %v", name, few(b.ctx), few(b.around), e, want)
	}
}

func holdSchema(t *testing.T, name string, sig []api.Decl, schema []api.Term, want api.Errno) {
	t.Helper()
	if e := world.Schema(sig, schema); e != want {
		t.Errorf("%s: %s: %v, not %v", name, few(schema), e, want)
	}
}

func holdConforms(t *testing.T, name string, schema, ctx []api.Term, want bool) {
	t.Helper()
	if is := world.Conforms(schema, ctx); is != want {
		t.Errorf("%s: %s, to a schema of %s: %v", name, few(ctx), few(schema), is)
	}
}

// P11.1

// The chapter's examples.
func TestExamples(t *testing.T) {
	holdSig(t, "nat, z, s", types(sort, fam(0), pi(fam(0), fam(0))), right)
	holdSig(t, "z ahead of nat", types(fam(1), sort), place{0, api.ErrScope})
	holdSig(t, "z ahead of nat, which is then no. 0", types(fam(0), sort), place{0, api.ErrScope})
}

func TestSigThatIsInOrder(t *testing.T) {
	holdSig(t, "nil", nil, right)
	holdSig(t, "empty", []api.Decl{}, right)
	holdSig(t, "the system", system(), right)
	for i, d := range system() {
		if !slices.Contains([]int{natF, tmF}, i) {
			holdSig(t, "one of the system alone", []api.Decl{d}, place{0, api.ErrScope})
		}
	}
	sig := append(system(), types(
		// Kinds: a Sort, Pis that end in a Sort, and Pis of Pis that do.
		sort, pi(nat, sort), pis(nat, vec(vari(0)), sort), pis(pi(nat, nat), pis(nat, pi(tm, tm), tm), sort),
		// Types: of families, of Pis that end in one, and of Pis of Pis.
		nat, vec(one), pis(nat, vec(vari(0)), vec(vari(1))), pis(pi(nat, nat), pi(pi(tm, tm), vec(vari(1, zero))), tm),
		// Of the families that were told here.
		fam(declared), fam(declared+1, zero), fam(declared+2, zero, con(noneC)), pi(fam(declared), fam(declared+1, one)),
	)...)
	holdSig(t, "more than the system", sig, right)
	// Names are the readers' affair (parse, show): here they may be anything.
	for i := range sig {
		sig[i].Name = "[type: "
	}
	holdSig(t, "names that may be none, and are all the same", sig, right)
}

func TestHowManyDeclarations(t *testing.T) {
	for n, want := range map[int]place{1: right, 39: right, 40: right, 41: {0, api.ErrLimit}, 42: {0, api.ErrLimit}, 100000: {0, api.ErrLimit}} {
		sig := types(times(n, sort)...)
		holdSig(t, fmt.Sprint(n), sig, want)
		// Too many is told ahead of what is wrong with one.
		for _, at := range []int{0, n / 2, n - 1} {
			for _, x := range list(zero, fam(99), node(-1, 0)) {
				sig, told := slices.Clone(sig), want
				if sig[at].T = x; n <= 40 {
					told = place{at, wrongAlone(x)}
				}
				holdSig(t, fmt.Sprint(n, " with a wrong one at ", at), sig, told)
			}
		}
	}
}

// wrongAlone is what there is to tell of a Const, of what is no such Fam, and of what may not be, as a declaration or an entry.
func wrongAlone(x api.Term) api.Errno {
	switch {
	case x.Kind < 0:
		return api.ErrArg
	case x.Kind == api.Fam:
		return api.ErrScope
	}
	return api.ErrType
}

// bad are declarations that are wrong wherever they stand among those of the system, or behind it, and why.
func bad() map[api.Errno]map[string]api.Term {
	return map[api.Errno]map[string]api.Term{
		api.ErrArg: {
			"Kind below 0":          node(-1, 0),
			"Kind Kinds":            node(api.Kinds, 0),
			"Sort with a head":      node(api.Sort, 1),
			"Sort of one":           node(api.Sort, 0, sort),
			"Pi of three":           node(api.Pi, 0, sort, sort, sort),
			"Pi to a Sort of one":   pi(fam(0), node(api.Sort, 0, sort)),
			"Pi of what may not be": pi(node(api.Pi, 0), sort),
			"Fam below 0":           fam(-1),
			"an Arg that may not":   fam(0, con(-1)),
			"behind another error":  pis(fam(99), zero, node(api.Lam, 0)),
		},
		api.ErrScope: {
			"no such Fam":                 fam(99),
			"no such Fam, of Args":        fam(99, zero),
			"the greatest Fam":            fam(math.MaxInt),
			"Pi of no such Fam":           pi(fam(99), sort),
			"Pi of no such Fam, a type":   pi(fam(99), fam(0)),
			"Pi to no such Fam":           pi(pi(fam(99), fam(99)), fam(99)),
			"Pi of a Pi to no such Fam":   pi(pi(fam(99), sort), sort),
			"ahead of what is no type":    pis(fam(99), zero, sort),
			"ahead of a Const at the end": pis(fam(99), zero),
		},
		api.ErrType: {
			"Lam":                     lam(vari(0)),
			"Lam of a type":           lam(sort),
			"Var":                     vari(0),
			"Const":                   con(0),
			"Const of Args":           con(1, sort),
			"Meta":                    hole(0),
			"Meta of Args":            hole(0, fam(0)),
			"Pi of a Sort, to a Sort": pi(sort, sort),
			"Pi of a kind":            pi(pi(sort, sort), sort),
			"Pi of a Lam":             pi(lam(vari(0)), sort),
			"Pi of a Const, a type":   pi(con(0), fam(99)),
			"Pi of a Var, to a Sort":  pis(vari(0), fam(99), sort),
			"Pi of a Meta, to a Lam":  pi(hole(0), lam(sort)),
		},
	}
}

// Of each wrong declaration that stands in a place of the system the place, and what is wrong, is told.
func TestTheFirstDeclarationThatIsWrong(t *testing.T) {
	for e, l := range bad() {
		for name, x := range l {
			for at := range declared + 1 {
				holdSig(t, fmt.Sprint(name, " at ", at), slices.Insert(system(), at, types(x)...), place{at, e})
				if at < declared {
					sig := system()
					sig[at].T = x
					holdSig(t, fmt.Sprint(name, " instead of ", at), sig, place{at, e})
				}
			}
		}
	}
}

// What is wrong with a later one counts for nothing, whichever error that is.
func TestALaterDeclarationThatIsWrong(t *testing.T) {
	for e, l := range bad() {
		for name, x := range l {
			for _, later := range bad() {
				for behind, y := range later {
					for _, at := range []int{0, 5, declared} {
						sig := slices.Insert(system(), at, types(x)...)
						holdSig(t, fmt.Sprint(name, " at ", at, " ahead of ", behind), append(sig, types(y)...), place{at, e})
						holdSig(t, fmt.Sprint(name, " at ", at, " next to ", behind), slices.Insert(sig, at+1, types(y)...), place{at, e})
					}
				}
			}
		}
	}
}

// A declaration is over those ahead of it alone: of itself, and of those behind it, it can tell nothing.
func TestDeclarationsOfWhatIsNotAheadOfThem(t *testing.T) {
	for name, x := range map[string]struct {
		of  func(head int) api.Term
		own api.Errno
	}{
		"a type of the family":            {func(i int) api.Term { return fam(i) }, api.OK},
		"a type that asks for it":         {func(i int) api.Term { return pi(fam(i), fam(natF)) }, api.OK},
		"a type that comes to it":         {func(i int) api.Term { return pi(fam(natF), fam(i)) }, api.OK},
		"a kind that asks for it":         {func(i int) api.Term { return pi(fam(i), sort) }, api.OK},
		"a kind that asks for what does":  {func(i int) api.Term { return pi(pi(fam(i), fam(i)), sort) }, api.OK},
		"a type with Args of that family": {func(i int) api.Term { return fam(i, zero) }, api.ErrType},
	} {
		for _, ahead := range []int{2, 5, declared} {
			sig := append(system()[:ahead:ahead], types(sort)...)
			holdSig(t, name+", ahead", append(slices.Clone(sig), types(x.of(ahead))...), map[bool]place{true: right, false: {ahead + 1, x.own}}[x.own == api.OK])
			holdSig(t, name+", of itself", append(slices.Clone(sig), types(x.of(ahead+1))...), place{ahead + 1, api.ErrScope})
			holdSig(t, name+", behind", append(slices.Clone(sig), types(x.of(ahead+2), sort)...), place{ahead + 1, api.ErrScope})
		}
	}
	for name, x := range map[string]func(i int) api.Term{
		"a type of a constant":           func(i int) api.Term { return vec(con(i)) },
		"a type of a constant, applied":  func(i int) api.Term { return vec(succ(con(i))) },
		"a kind of a constant":           func(i int) api.Term { return pi(vec(con(i)), sort) },
		"a constant below what is bound": func(i int) api.Term { return pis(tm, vec(con(i)), plus(con(i), con(i), zero)) },
	} {
		sig := append(system(), types(nat)...)
		holdSig(t, name+", ahead", append(slices.Clone(sig), types(x(declared))...), right)
		holdSig(t, name+", of itself", append(slices.Clone(sig), types(x(declared+1))...), place{declared + 1, api.ErrScope})
		holdSig(t, name+", behind", append(slices.Clone(sig), types(x(declared+2), nat)...), place{declared + 1, api.ErrScope})
	}
}

// What comes to a Sort is a family, and no constant; all else may be a constant alone.
func TestKindsAndTypesApart(t *testing.T) {
	for name, x := range map[string]struct {
		t       api.Term
		asFam   api.Term
		asConst api.Term
		kind    bool
	}{
		"Sort":              {sort, fam(declared), con(declared), true},
		"Pi to a Sort":      {pi(nat, sort), fam(declared, zero), con(declared, zero), true},
		"Pis to a Sort":     {pis(nat, pi(tm, tm), sort), fam(declared, zero, lam(vari(0))), con(declared, zero, lam(vari(0))), true},
		"Pi of Pis, Sort":   {pi(pis(nat, nat, tm), sort), fam(declared, lam(lam(self))), con(declared, lam(lam(self))), true},
		"Fam":               {nat, fam(declared), con(declared), false},
		"Pi to a Fam":       {pi(nat, nat), fam(declared, zero), con(declared, zero), false},
		"Pis to a Fam":      {pis(nat, pi(tm, tm), nat), fam(declared, zero, lam(vari(0))), con(declared, zero, lam(vari(0))), false},
		"Pi of Pis, to Fam": {pi(pis(nat, nat, tm), nat), fam(declared, lam(lam(self))), con(declared, lam(lam(self))), false},
	} {
		sig := append(system(), types(x.t)...)
		holdSig(t, name, sig, right)
		asFam, asConst := place{declared + 1, api.ErrScope}, right
		if x.kind {
			asFam, asConst = right, place{declared + 1, api.ErrScope}
		}
		holdSig(t, name+", as a family", append(slices.Clone(sig), types(x.asFam)...), asFam)
		holdSig(t, name+", as a constant", append(slices.Clone(sig), types(vec(x.asConst))...), asConst)
	}
}

// There are no metas, and no entries, but those that Pis bind.
func TestDeclarationsAreInNothing(t *testing.T) {
	for name, x := range map[string]api.Term{
		"an entry":             vec(vari(0)),
		"an entry, applied":    vec(vari(0, zero)),
		"an entry of a kind":   pi(vec(vari(0)), sort),
		"an entry below a Pi":  pis(nat, vec(vari(1))),
		"an entry below Pis":   pis(nat, tm, vec(vari(2)), sort),
		"a meta":               vec(hole(0)),
		"a meta of a kind":     pi(vec(hole(0)), sort),
		"a meta of an entry":   pis(nat, vec(hole(0, vari(0)))),
		"a meta in a constant": vec(succ(hole(0))),
	} {
		for _, sig := range [][]api.Decl{system(), append(system(), types(nat, nat)...)} {
			holdSig(t, name, append(slices.Clone(sig), types(x)...), place{len(sig), api.ErrScope})
			holdSig(t, name+", behind a family", append(slices.Clone(sig), types(sort, x, sort)...), place{len(sig) + 1, api.ErrScope})
		}
	}
	holdSig(t, "what Pis bind", append(system(), types(pis(nat, vec(vari(0)), plus(vari(1), vari(1), zero), sort))...), right)
}

// growing is the system, and a family of a function, and of what is of that function, so many times: check's own ErrLimit, if it is too many.
func growing(n int) []api.Decl {
	first, function := self, pi(tm, tm)
	for range n {
		first = vari(0, first)
	}
	return append(system(), types(pi(tm, sort), pis(function, fam(declared, first), sort))...)
}

func TestAnErrorOfSubst(t *testing.T) {
	double := lam(con(appC, vari(0), vari(0)))
	for n, e := range map[int]api.Errno{1: api.ErrScope, 5: api.ErrScope, 20: api.ErrLimit, 50: api.ErrLimit} {
		sig, many := growing(n), fam(declared+1, double, con(99))
		holdSig(t, "a type", append(slices.Clone(sig), types(many)...), place{len(sig), e})
		holdSig(t, "a kind", append(slices.Clone(sig), types(pi(many, sort))...), place{len(sig), e})
		holdCtx(t, "an entry", behind{sig: sig, ctx: list(nat, many)}, e)
		holdSchema(t, "a type of a schema", sig, list(nat, many), e)
	}
}

// P11.2

func TestCtxOfNoEntries(t *testing.T) {
	wrong := list(node(-1, 0), zero, fam(99))
	for name, b := range map[string]behind{
		"nothing":           {},
		"over the system":   in(),
		"behind others":     in().near(nat, tm),
		"with metas":        in().with(unknown(nat)),
		"empty":             in([]api.Term{}...),
		"behind wrong ones": in().near(wrong...),
		"behind many":       in().near(times(5000, nat)...),
		"with wrong metas":  in().with(unknown(wrong[0], wrong...), unknown(wrong[1])),
		"over wrong ones":   {sig: types(wrong...)},
		"over many":         {sig: types(times(5000, zero)...)},
	} {
		holdCtx(t, name, b, api.OK)
	}
}

func TestHowManyEntries(t *testing.T) {
	for n, want := range map[int]api.Errno{1: api.OK, 39: api.OK, 40: api.OK, 41: api.ErrLimit, 42: api.ErrLimit, 100000: api.ErrLimit} {
		ctx := times(n, nat)
		for _, around := range [][]api.Term{nil, {}, list(nat), times(40, tm), times(41, tm), times(900, nat)} {
			holdCtx(t, fmt.Sprint(n, " behind ", len(around)), in(ctx...).near(around...), want)
			holdCtx(t, fmt.Sprint(n, " with metas behind ", len(around)), in(ctx...).near(around...).with(unknown(nat, tm)), want)
		}
		// Too many is told ahead of what is wrong with one, and with all else.
		for _, at := range []int{0, n / 2, n - 1} {
			for _, x := range list(zero, fam(99), node(-1, 0)) {
				ctx, told := slices.Clone(ctx), want
				if ctx[at] = x; n <= 40 {
					told = wrongAlone(x)
				}
				holdCtx(t, fmt.Sprint(n, " with a wrong one at ", at), in(ctx...), told)
			}
		}
		if want == api.ErrLimit {
			holdCtx(t, "of what may not be", behind{types(node(-1, 0)), []api.MetaDecl{unknown(node(-1, 0))}, list(node(-1, 0)), ctx}, want)
			holdCtx(t, "behind too many", in(ctx...).near(times(1001, nat)...), want)
		}
	}
}

// In all there may be 1000 entries ahead of the last one: more are check's ErrArg.
func TestHowManyEntriesAround(t *testing.T) {
	for around, most := range map[int]int{0: 40, 960: 40, 961: 40, 962: 39, 990: 11, 998: 3, 999: 2, mostEntries: 1, 1001: 0, 5000: 0} {
		for n := 1; n <= 40; n += 1 + n/4 {
			want := api.OK
			if n > most {
				want = api.ErrArg
			}
			holdCtx(t, fmt.Sprint(n, " behind ", around), in(times(n, nat)...).near(times(around, nat)...), want)
		}
		// What is wrong with an entry is told ahead of a later one that has too many ahead of it.
		if most > 0 && most < 40 {
			holdCtx(t, "a wrong one", in(append(times(most-1, nat), fam(99), nat)...).near(times(around, nat)...), api.ErrScope)
		}
	}
}

func TestEntries(t *testing.T) {
	row := func(i int) api.Term { return vec(vari(i)) }
	for name, x := range map[string]struct {
		around, ctx []api.Term
		e           api.Errno
	}{
		"a Fam":                                {nil, list(nat), api.OK},
		"a Pi":                                 {nil, list(pi(nat, nat)), api.OK},
		"Pis of Pis":                           {nil, list(nat, pis(pi(tm, tm), nat, vec(vari(0)))), api.OK},
		"a Sort":                               {nil, list(sort), api.ErrType},
		"a kind":                               {nil, list(pi(nat, sort)), api.ErrType},
		"a Lam":                                {nil, list(lam(nat)), api.ErrType},
		"a Var":                                {nil, list(nat, vari(0)), api.ErrType},
		"a Const":                              {nil, list(zero), api.ErrType},
		"a Meta":                               {nil, list(hole(0)), api.ErrType},
		"of one ahead":                         {nil, list(nat, row(0)), api.OK},
		"of one further ahead":                 {nil, list(nat, tm, tm, row(2)), api.OK},
		"of one ahead, of another type":        {nil, list(tm, row(0)), api.ErrType},
		"of one further ahead, of another one": {nil, list(nat, tm, tm, row(1)), api.ErrType},
		"of two ahead":                         {nil, list(nat, nat, plus(vari(0), vari(1), zero), row(1)), api.OK},
		"of two ahead, one of another type":    {nil, list(nat, nat, plus(vari(0), vari(1), zero), row(0)), api.ErrType},
		"of a function ahead":                  {nil, list(nat, pi(nat, nat), row(1), vec(vari(1, vari(2)))), api.OK},
		"a Pi of one ahead":                    {nil, list(nat, pis(row(0), tm, row(2))), api.OK},
		"a Pi of one it binds":                 {nil, list(tm, pis(nat, row(0))), api.OK},
		"a Pi of one ahead of another type":    {nil, list(tm, pis(nat, row(1))), api.ErrType},
		"of what there is not":                 {nil, list(row(0)), api.ErrScope},
		"of what there is not, behind one":     {nil, list(nat, row(1)), api.ErrScope},
		"of what there is not, behind two":     {nil, list(nat, nat, row(2)), api.ErrScope},
		"of itself, were it one":               {nil, list(row(0), nat), api.ErrScope},
		"of what stands behind":                {nil, list(row(1), nat, nat), api.ErrScope},
		"of the greatest variable":             {nil, list(nat, row(math.MaxInt)), api.ErrScope},
		"of one around":                        {list(nat), list(row(0)), api.OK},
		"of one around, twice":                 {list(nat), list(row(0), row(1), row(2)), api.OK},
		"of one around, of another type":       {list(tm), list(row(0)), api.ErrType},
		"of one further around":                {list(nat, tm, tm), list(row(2), tm, row(4)), api.OK},
		"of one further around, another one":   {list(nat, tm, tm), list(row(2), tm, row(3)), api.ErrType},
		"of one around and one ahead":          {list(tm, nat), list(nat, plus(vari(0), vari(1), vari(0))), api.OK},
		"of one around and one ahead, turned":  {list(nat, tm), list(nat, plus(vari(0), vari(1), vari(0))), api.ErrType},
		"of what is not around":                {list(nat), list(row(1)), api.ErrScope},
		"of what is not around, behind one":    {list(nat, nat), list(nat, row(3)), api.ErrScope},
		"of the last one around alone":         {list(tm, tm, nat), list(row(0), row(1)), api.OK},
		"of the first one around, not up":      {list(nat, tm), list(row(1), row(1)), api.ErrType},
		"around that speaks of itself":         {list(nat, row(0)), list(pis(row(1), nat), row(2)), api.OK},
		"around that is no context":            {list(zero, fam(99), sort), list(nat, row(0)), api.OK},
		"of what is no context":                {list(zero, fam(99), sort), list(nat, row(1)), api.ErrType},
		"of an entry around that is no type":   {list(fam(99)), list(row(0)), api.ErrType},
		"of no such Fam":                       {list(nat), list(nat, fam(99)), api.ErrScope},
		"of a Fam that is a constant":          {list(nat), list(nat, fam(zeroC)), api.ErrScope},
		"of too few Args":                      {list(nat), list(nat, fam(plusF, zero, zero)), api.ErrType},
		"of too many Args":                     {list(nat), list(nat, fam(natF, zero)), api.ErrType},
		"the first one's error":                {nil, list(nat, fam(99), sort), api.ErrScope},
		"the first one's error, turned":        {nil, list(nat, sort, fam(99)), api.ErrType},
		"the first one's error, the last is":   {nil, list(fam(99), nat, node(-1, 0)), api.ErrScope},
		"the first one may not be":             {nil, list(node(-1, 0), sort, fam(99)), api.ErrArg},
		"one that may not be, in order":        {nil, list(nat, node(-1, 0), sort), api.ErrArg},
		"around may not be":                    {list(nat, node(-1, 0)), list(sort, nat), api.ErrArg},
		"around may not be, ahead of an error": {list(node(-1, 0), nat), list(fam(99)), api.ErrArg},
	} {
		holdCtx(t, name, in(x.ctx...).near(x.around...), x.e)
		// No meta is spoken of: with some it is the same.
		if name != "a Meta" {
			holdCtx(t, name+", with metas", in(x.ctx...).near(x.around...).with(unknown(nat), unknown(fam(99), sort)), x.e)
		}
	}
	holdCtx(t, "over nothing", behind{ctx: list(nat)}, api.ErrScope)
	holdCtx(t, "over what is wrong", behind{sig: types(sort, fam(99), sort), ctx: list(nat, fam(2))}, api.OK)
	holdCtx(t, "over what may not be", behind{sig: types(sort, fam(-1)), ctx: list(nat)}, api.ErrArg)
}

func TestEntriesOfMetas(t *testing.T) {
	metas := []api.MetaDecl{unknown(nat), unknown(nat, tm), unknown(tm), unknown(nat, nat, vec(vari(0)))}
	for name, x := range map[string]struct {
		around, ctx []api.Term
		e           api.Errno
	}{
		"a meta":                           {nil, list(vec(hole(0))), api.OK},
		"a meta, in a Pi":                  {nil, list(pi(vec(hole(0)), vec(succ(hole(0))))), api.OK},
		"a meta of another type":           {nil, list(vec(hole(2))), api.ErrType},
		"a meta of an entry ahead":         {nil, list(tm, vec(hole(1, vari(0)))), api.OK},
		"a meta of an entry around":        {list(tm), list(nat, vec(hole(1, vari(1)))), api.OK},
		"a meta of an entry of other type": {list(tm), list(nat, vec(hole(1, vari(0)))), api.ErrType},
		"a meta of what there is not":      {list(tm), list(nat, vec(hole(1, vari(2)))), api.ErrScope},
		"a meta of a meta":                 {nil, list(vec(hole(1, hole(2)))), api.OK},
		"a meta of two":                    {list(nat), list(vec(vari(0)), vec(hole(3, vari(1), vari(0)))), api.OK},
		"a meta of two, turned":            {list(nat), list(vec(vari(0)), vec(hole(3, vari(0), vari(1)))), api.ErrType},
		"a meta of too few":                {nil, list(vec(hole(1))), api.ErrType},
		"a meta of too many":               {nil, list(vec(hole(0, zero))), api.ErrType},
		"no such meta":                     {nil, list(vec(hole(4))), api.ErrScope},
		"no such meta, behind one":         {nil, list(vec(hole(0)), vec(hole(4))), api.ErrScope},
		"a meta alone":                     {nil, list(hole(0)), api.ErrType},
	} {
		holdCtx(t, name, in(x.ctx...).near(x.around...).with(metas...), x.e)
	}
	holdCtx(t, "without metas", in(vec(hole(0))), api.ErrScope)
	holdCtx(t, "a meta that may not be", in(nat).with(unknown(nat), unknown(con(-1))), api.ErrArg)
	holdCtx(t, "a meta's entry that may not be", in(nat).with(unknown(nat, nat, con(-1))), api.ErrArg)
	holdCtx(t, "metas that are wrong", in(nat).with(unknown(sort, zero)), api.OK)
}

// Each entry is in all those ahead of it: a row of each, of how many the one that it speaks of tells.
func TestEachEntryAhead(t *testing.T) {
	for around := range 4 {
		for at := range 12 {
			for of := range 16 {
				ctx := times(12, tm)
				ctx[at] = vec(vari(of))
				want := api.ErrType
				if of >= around+at {
					want = api.ErrScope
				}
				holdCtx(t, "of what is no number", in(ctx...).near(times(around, tm)...), want)
				if of < at {
					ctx[at-1-of], want = nat, api.OK
					holdCtx(t, "of a number ahead", in(ctx...).near(times(around, tm)...), want)
				} else if of < around+at {
					near := times(around, tm)
					near[around+at-1-of] = nat
					holdCtx(t, "of a number around", in(ctx...).near(near...), api.OK)
				}
			}
		}
	}
}

// P11.3

func TestSchemaOfNoTypes(t *testing.T) {
	for name, sig := range map[string][]api.Decl{"nothing": nil, "the system": system(), "wrong ones": types(zero, fam(99), node(-1, 0)), "many": types(times(41, sort)...)} {
		holdSchema(t, name, sig, nil, api.OK)
		holdSchema(t, name, sig, list(), api.OK)
	}
}

func TestHowManyTypes(t *testing.T) {
	for n, want := range map[int]api.Errno{1: api.OK, 39: api.OK, 40: api.OK, 41: api.ErrLimit, 42: api.ErrLimit, 100000: api.ErrLimit} {
		holdSchema(t, fmt.Sprint(n), system(), times(n, vec(one)), want)
		for _, at := range []int{0, n / 2, n - 1} {
			for _, x := range list(zero, fam(99), node(-1, 0)) {
				schema, told := times(n, vec(one)), want
				if schema[at] = x; n <= 40 && x.Kind == api.Fam {
					told = api.ErrScope
				} else if n <= 40 {
					told = api.ErrArg
				}
				holdSchema(t, fmt.Sprint(n, " with a wrong one at ", at), system(), schema, told)
			}
		}
		if want == api.ErrLimit {
			holdSchema(t, "over what may not be", types(node(-1, 0)), times(n, nat), want)
		}
	}
}

// noFams are what is no Fam, whatever check would say of it.
func noFams() map[string]api.Term {
	return map[string]api.Term{
		"Sort":                sort,
		"Pi to a Fam":         pi(nat, nat),
		"Pi to a Sort":        pi(nat, sort),
		"Pi of no such Fam":   pi(fam(99), nat),
		"Pi to no such Fam":   pi(nat, fam(99)),
		"Pi of a Sort":        pi(sort, nat),
		"Pi of too few":       pi(fam(vecF), nat),
		"Lam":                 lam(vari(0)),
		"Lam of a Fam":        lam(nat),
		"Var":                 vari(0),
		"Const":               zero,
		"no such Const":       con(99),
		"Meta":                hole(0),
		"Kind below 0":        node(-1, 0),
		"Kind Kinds":          node(api.Kinds, 0, nat),
		"the greatest Kind":   node(math.MaxInt, 0),
		"Pi that may not be":  node(api.Pi, 3, nat),
		"Pi of what may not":  pi(fam(-1), nat),
		"Const that may not":  con(-1),
		"the Pi that is many": pis(times(100, nat)...),
	}
}

// illFams are Fams that are wrong, and why.
func illFams() map[string]struct {
	t api.Term
	e api.Errno
} {
	return map[string]struct {
		t api.Term
		e api.Errno
	}{
		"no such one":             {fam(declared), api.ErrScope},
		"the greatest one":        {fam(math.MaxInt), api.ErrScope},
		"no kind":                 {fam(zeroC), api.ErrScope},
		"no kind, with Args":      {fam(succC, zero), api.ErrScope},
		"too few":                 {fam(vecF), api.ErrType},
		"two of three":            {fam(plusF, zero, zero), api.ErrType},
		"too many":                {fam(natF, zero), api.ErrType},
		"of another type":         {vec(self), api.ErrType},
		"of a type":               {vec(nat), api.ErrType},
		"of no such one":          {vec(con(99)), api.ErrScope},
		"of a kind":               {vec(con(natF)), api.ErrScope},
		"of a variable":           {vec(vari(0)), api.ErrScope},
		"of a meta":               {vec(hole(0)), api.ErrScope},
		"may not be":              {fam(-1), api.ErrArg},
		"of what may not be":      {vec(node(9, 0)), api.ErrArg},
		"of what may not, behind": {fam(99, con(99), vari(-1)), api.ErrArg},
	}
}

func TestSchemas(t *testing.T) {
	fine := list(nat, tm, vec(zero), vec(succ(one)), plus(zero, one, zero), nat)
	holdSchema(t, "all sorts of Fams", system(), fine, api.OK)
	for i, x := range fine {
		holdSchema(t, "one alone", system(), list(x), api.OK)
		holdSchema(t, "over nothing", nil, list(x), api.ErrScope)
		for name, y := range noFams() {
			holdSchema(t, name, system(), slices.Insert(slices.Clone(fine), i, y), api.ErrArg)
		}
		for name, y := range illFams() {
			holdSchema(t, name, system(), slices.Insert(slices.Clone(fine), i, y.t), y.e)
		}
	}
	for name, x := range noFams() {
		holdSchema(t, name, system(), list(x), api.ErrArg)
		holdSchema(t, name+", over nothing", nil, list(x), api.ErrArg)
	}
	for name, x := range illFams() {
		holdSchema(t, name, system(), list(x.t), x.e)
	}
}

// Type by type: what is no Fam behind a Fam that is wrong counts for nothing, and the other way round.
func TestTheFirstTypeThatIsWrong(t *testing.T) {
	for name, x := range noFams() {
		for ill, y := range illFams() {
			holdSchema(t, name+" ahead of: "+ill, system(), list(nat, x, y.t, nat), api.ErrArg)
			holdSchema(t, name+" behind: "+ill, system(), list(nat, y.t, x, nat), y.e)
		}
	}
	for ill, x := range illFams() {
		for other, y := range illFams() {
			holdSchema(t, ill+" ahead of: "+other, system(), list(nat, x.t, nat, y.t), x.e)
		}
	}
}

// Each type is in no context: those ahead of it are no entries.
func TestTypesOfASchemaAreInNothing(t *testing.T) {
	for i := range 3 {
		holdSchema(t, "of one ahead", system(), list(nat, nat, nat, vec(vari(i))), api.ErrScope)
		holdSchema(t, "of one behind", system(), list(vec(vari(i)), nat, nat, nat), api.ErrScope)
	}
	holdSchema(t, "what a Lam binds", append(system(), types(pi(pi(nat, nat), sort))...), list(nat, fam(declared, lam(succ(vari(0))))), api.OK)
	holdSchema(t, "what a Lam does not bind", append(system(), types(pi(pi(nat, nat), sort))...), list(nat, fam(declared, lam(succ(vari(1))))), api.ErrScope)
}

// A signature need not be in order, but each of it may be.
func TestSchemaOverWhatIsWrong(t *testing.T) {
	holdSchema(t, "a wrong type", types(sort, fam(99), zero, sort), list(fam(0), fam(3)), api.OK)
	holdSchema(t, "what may not be", types(sort, fam(99), node(-1, 0)), list(fam(0)), api.ErrArg)
	holdSchema(t, "many", types(times(1000, sort)...), list(fam(999)), api.OK)
}

func TestConforms(t *testing.T) {
	schema := list(nat, vec(one), plus(zero, one, succ(one)), tm)
	holdConforms(t, "nothing to nothing", nil, nil, true)
	holdConforms(t, "nothing to something", schema, nil, true)
	holdConforms(t, "empty to nothing", nil, list(), true)
	holdConforms(t, "empty to empty", list(), list(), true)
	holdConforms(t, "something to nothing", nil, list(nat), false)
	holdConforms(t, "something to empty", list(), list(nat), false)
	holdConforms(t, "itself", schema, schema, true)
	for i, x := range schema {
		holdConforms(t, "one", schema, list(x), true)
		holdConforms(t, "one twice", schema, list(x, x), true)
		holdConforms(t, "the other way round", list(x), schema, false)
		holdConforms(t, "one many times", schema, times(1000, x), true)
		rest := slices.Delete(slices.Clone(schema), i, i+1)
		holdConforms(t, "none", rest, list(x), false)
		holdConforms(t, "all but one", schema, rest, true)
		for at := range 4 {
			holdConforms(t, "one that is none", rest, slices.Insert(slices.Clone(rest), at, x), false)
			holdConforms(t, "a further one that is none", schema, slices.Insert(slices.Clone(schema), at, succ(x)), false)
		}
	}
	turned := slices.Clone(schema)
	slices.Reverse(turned)
	holdConforms(t, "in another order", schema, turned, true)
	holdConforms(t, "no Args, nil and empty", list(api.Term{Kind: api.Fam}), list(api.Term{Kind: api.Fam, Args: list()}), true)
}

// Conforming is being the same, whatever it is, and however many there are.
func TestConformsOfAnything(t *testing.T) {
	all := list(sort, pi(nat, nat), lam(vari(0)), vari(0), con(99), hole(3, zero), fam(99), node(-1, -1, sort), node(api.Pi, 4), node(math.MaxInt, math.MinInt))
	for i, x := range all {
		holdConforms(t, "itself", list(x), list(x), true)
		holdConforms(t, "one of all", all, list(x, x), true)
		holdConforms(t, "none of the others", slices.Delete(slices.Clone(all), i, i+1), list(x), false)
	}
	for _, n := range []int{40, 41, 1000} {
		var many []api.Term
		for i := range n {
			many = append(many, vec(con(i)))
		}
		holdConforms(t, "many", many, many, true)
		holdConforms(t, "many, and the last one of these", many, list(many[n-1]), true)
		holdConforms(t, "many, but the last one", many[:n-1], many, false)
		holdConforms(t, "many, but the first one", many[1:], many, false)
	}
}

// changed are terms with one change: of a Kind, of a Head, of an Arg too many, or of one too few.
func changed(t api.Term) []api.Term {
	l := list(
		node(t.Kind+1, t.Head, t.Args...), node(t.Kind-1, t.Head, t.Args...),
		node(t.Kind, t.Head+1, t.Args...), node(t.Kind, t.Head-1, t.Args...),
		node(t.Kind, t.Head, append(slices.Clone(t.Args), zero)...),
	)
	if len(t.Args) > 0 {
		l = append(l, node(t.Kind, t.Head, t.Args[1:]...), node(t.Kind, t.Head, t.Args[:len(t.Args)-1]...))
	}
	for i, a := range t.Args {
		for _, x := range changed(a) {
			args := slices.Clone(t.Args)
			args[i] = x
			l = append(l, node(t.Kind, t.Head, args...))
		}
	}
	return l
}

func TestOneThingChanged(t *testing.T) {
	for _, x := range list(nat, vec(zero), plus(zero, succ(one), con(psC, one, lam(pi(nat, vari(0))), hole(1, vari(0, zero))))) {
		for _, y := range changed(x) {
			for _, schema := range [][]api.Term{list(x), list(sort, x), list(x, lam(sort)), list(sort, x, x, lam(sort))} {
				holdConforms(t, "changed", schema, list(y), false)
				holdConforms(t, "changed, behind right ones", schema, list(x, x, y), false)
				holdConforms(t, "changed, ahead of right ones", schema, list(y, x, x), false)
				holdConforms(t, "changed, and told", append(slices.Clone(schema), y), list(x, y), true)
			}
		}
	}
}
