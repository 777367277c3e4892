package metas_test

import (
	"fmt"
	"math"
	"slices"
	"testing"

	"amanuensis/api"
	"amanuensis/metas"
)

const mostEntries = 1000

var sort = api.Term{Kind: api.Sort}

func node(kind, head int, args ...api.Term) api.Term {
	return api.Term{Kind: kind, Head: head, Args: args}
}

func pi(a, b api.Term) api.Term                { return node(api.Pi, 0, a, b) }
func lam(a api.Term) api.Term                  { return node(api.Lam, 0, a) }
func fam(head int, args ...api.Term) api.Term  { return node(api.Fam, head, args...) }
func vari(head int, args ...api.Term) api.Term { return node(api.Var, head, args...) }
func con(head int, args ...api.Term) api.Term  { return node(api.Const, head, args...) }
func hole(head int, args ...api.Term) api.Term { return node(api.Meta, head, args...) }

func list(l ...api.Term) []api.Term { return l }

func times(n int, t api.Term) []api.Term { return slices.Repeat(list(t), n) }

// pis is a Pi of each, one in the other, the last one to the last one.
func pis(l ...api.Term) api.Term {
	t := l[len(l)-1]
	for _, a := range slices.Backward(l[:len(l)-1]) {
		t = pi(a, t)
	}
	return t
}

func equal(a, b api.Term) bool {
	return a.Kind == b.Kind && a.Head == b.Head && slices.EqualFunc(a.Args, b.Args, equal)
}

// The declarations of system.
const (
	natF  = iota // numbers
	zeroC        // 0
	succC        // and one more
	plusF        // how they are added: of three numbers
	pzC          // 0 and n is n
	psC          // n and m is k: and one more each
	tmF          // terms
	absC         // a function
	appC         // what is applied
	vecF         // rows, of so many
	noneC        // one of none
	nextC        // and one more: of n, a number, and one of n
	declared
)

var (
	nat  = fam(natF)
	tm   = fam(tmF)
	zero = con(zeroC)
	one  = succ(zero)
	two  = succ(one)
	none = con(noneC)
	self = con(absC, lam(vari(0)))
)

func succ(t api.Term) api.Term       { return con(succC, t) }
func vec(n api.Term) api.Term        { return fam(vecF, n) }
func plus(a, b, c api.Term) api.Term { return fam(plusF, a, b, c) }
func next(n, x, r api.Term) api.Term { return con(nextC, n, x, r) }

// numeral is a number of so many more.
func numeral(n int) api.Term {
	t := zero
	for range n {
		t = succ(t)
	}
	return t
}

// system are declarations that are in order.
func system() []api.Decl {
	return types(
		sort, nat, pi(nat, nat),
		pis(nat, nat, nat, sort),
		pi(nat, plus(zero, vari(0), vari(0))),
		pis(nat, nat, nat, plus(vari(2), vari(1), vari(0)), plus(succ(vari(3)), vari(2), succ(vari(1)))),
		sort, pi(pi(tm, tm), tm), pis(tm, tm, tm),
		pi(nat, sort), vec(zero), pis(nat, nat, vec(vari(1)), vec(succ(vari(2)))),
	)
}

// types are declarations of these types, or kinds.
func types(l ...api.Term) []api.Decl {
	var sig []api.Decl
	for i, t := range l {
		sig = append(sig, api.Decl{Name: fmt.Sprint("x", i), T: t})
	}
	return sig
}

// unknown is a meta of a type, in a context of its own; param is one that stands for a variable alone.
func unknown(t api.Term, ctx ...api.Term) api.MetaDecl { return api.MetaDecl{Ctx: ctx, T: t} }
func param(t api.Term, ctx ...api.Term) api.MetaDecl {
	return api.MetaDecl{Ctx: ctx, T: t, Param: true}
}

func some(l ...api.MetaDecl) []api.MetaDecl { return l }

// known are metas that are in order.
func known() []api.MetaDecl {
	return some(unknown(nat), unknown(nat, nat), param(tm), unknown(tm, tm, nat), unknown(vec(hole(0))), param(vec(hole(1, hole(0)))))
}

// place is what Decls tells: of which meta, and what.
type place struct {
	at int
	e  api.Errno
}

var right = place{}

func holdDecls(t *testing.T, name string, sig []api.Decl, l []api.MetaDecl, want place) {
	t.Helper()
	if at, e := metas.Decls(sig, l); at != want.at || e != want.e {
		t.Errorf("%s: %s: %d, %v, not %d, %v", name, fewMetas(l), at, e, want.at, want.e)
	}
}

// terms are terms for metas, over what there is.
type terms struct {
	sig   []api.Decl
	metas []api.MetaDecl
	ext   []api.Term
	delta []api.MetaDecl
	theta []api.Term
}

// put are terms for metas over the system, over no metas, behind no entries.
func put(delta []api.MetaDecl, theta ...api.Term) terms {
	return terms{sig: system(), delta: delta, theta: theta}
}

func (x terms) with(l ...api.MetaDecl) terms {
	x.metas = l
	return x
}

func (x terms) behind(ext ...api.Term) terms {
	x.ext = ext
	return x
}

func (x terms) tell() api.Errno { return metas.Sub(x.sig, x.metas, x.ext, x.delta, x.theta) }

func holdSub(t *testing.T, name string, x terms, want api.Errno) {
	t.Helper()
	if e := x.tell(); e != want {
		t.Errorf("%s: %s for %s, over %s, behind %s: %v, not %v", name, few(x.theta), fewMetas(x.delta), fewMetas(x.metas), few(x.ext), e, want)
	}
}

// few are the last ones of many terms, fewMetas those of many metas: what is told of a list with an error.
func few(l []api.Term) string {
	return fmt.Sprintf("%d, to %v", len(l), upper(l[max(0, len(l)-10):], 5))
}

func fewMetas(l []api.MetaDecl) string {
	s := fmt.Sprintf("%d, to", len(l))
	for _, m := range l[max(0, len(l)-5):] {
		s += fmt.Sprintf(" [%s: %v %v]", few(m.Ctx), upper(list(m.T), 5), m.Param)
	}
	return s
}

// upper are the upper nodes of terms: one that may not be may have no end.
func upper(l []api.Term, depth int) []api.Term {
	if depth == 0 {
		return nil
	}
	l = slices.Clone(l[:min(len(l), 10)])
	for i := range l {
		l[i].Args = upper(l[i].Args[:min(len(l[i].Args), 3)], depth-1)
	}
	return l
}

// P12.1

func TestMetasThatAreInOrder(t *testing.T) {
	for name, l := range map[string][]api.MetaDecl{
		"nil":                               nil,
		"empty":                             some(),
		"one of nat":                        some(unknown(nat)),
		"one with an entry":                 some(unknown(nat, nat)),
		"with one of a function":            some(unknown(nat, pi(nat, nat))),
		"with one of a function of one":     some(unknown(tm, pi(pi(tm, tm), tm))),
		"a type of what is handed to it":    some(unknown(vec(one)), unknown(plus(one, zero, one))),
		"a type of its entries":             some(unknown(vec(vari(0)), nat), unknown(vec(vari(2)), nat, tm, tm)),
		"entries of entries":                some(unknown(tm, nat, vec(vari(0)), pis(nat, vec(vari(0)), vec(vari(3))))),
		"a type of an entry with Args":      some(unknown(vec(vari(0, zero)), pi(nat, nat))),
		"a Param":                           some(param(nat)),
		"Params, of what is handed to them": some(param(nat), param(vec(hole(0))), param(plus(zero, one, hole(0)))),
		"all that are known":                known(),
		"of those ahead":                    some(unknown(nat), unknown(vec(hole(0)), vec(hole(0))), unknown(vec(hole(0)), pi(nat, vec(hole(0))), nat)),
		"of those ahead, in Args of them":   some(unknown(nat, nat), unknown(vec(hole(0, zero))), unknown(vec(hole(0, vari(1))), nat, vec(hole(0, vari(0))))),
		"of a Param ahead":                  some(param(nat), unknown(vec(hole(0)), vec(hole(0)))),
	} {
		holdDecls(t, name, system(), l, right)
	}
	holdDecls(t, "nil over nil", nil, nil, right)
	holdDecls(t, "none over what is wrong", types(zero, node(-1, 0)), nil, right)
	holdDecls(t, "one over nil", nil, some(unknown(nat)), place{0, api.ErrScope})
	holdDecls(t, "behind none", system(), append(some(), known()...), right)
}

// bad are metas that are wrong wherever they stand, and why.
func bad() map[api.Errno]map[string]api.MetaDecl {
	return map[api.Errno]map[string]api.MetaDecl{
		api.ErrArg: {
			"a type that is no Fam: Sort":       unknown(sort),
			"no Fam: Pi":                        unknown(pi(nat, nat)),
			"no Fam: Pi of what is no type":     unknown(pi(zero, fam(99))),
			"no Fam: Lam":                       unknown(lam(vari(0))),
			"no Fam: Var":                       unknown(vari(0)),
			"no Fam: an entry":                  unknown(vari(0), nat),
			"no Fam: Const":                     unknown(con(noneC)),
			"no Fam: Meta":                      unknown(hole(0)),
			"no Fam: no Kind":                   unknown(node(api.Kinds, 0)),
			"a type that may not be":            unknown(fam(-1)),
			"an Arg of it that may not be":      unknown(vec(con(-1))),
			"a Param with an entry":             param(nat, nat),
			"a Param with 40 entries":           param(nat, times(40, nat)...),
			"a Param with entries, and no Fam":  param(pi(nat, nat), nat),
			"a Param with entries, of no scope": param(fam(99), nat),
			"a Param with entries, of no type":  param(vec(tm), nat),
			"a Param, no Fam":                   param(pi(nat, nat)),
			"an entry that may not be":          unknown(nat, node(-1, 0)),
			"a later entry that may not be":     unknown(nat, nat, tm, pi(tm, fam(-1))),
		},
		api.ErrScope: {
			"no such Fam":                         unknown(fam(99)),
			"no such Fam, in a context":           unknown(fam(99), nat, nat),
			"a Fam that is a constant":            unknown(fam(zeroC)),
			"no such variable":                    unknown(vec(vari(0))),
			"no such entry":                       unknown(vec(vari(2)), nat, nat),
			"no such constant":                    unknown(vec(con(99))),
			"no such meta":                        unknown(vec(hole(99))),
			"the greatest Fam":                    unknown(fam(math.MaxInt)),
			"a Param of no such Fam":              param(fam(99)),
			"an entry of no such Fam":             unknown(nat, fam(99)),
			"an entry of no such Fam, behind one": unknown(nat, nat, fam(99)),
			"an entry of itself":                  unknown(nat, vec(vari(0))),
			"an entry of one behind it":           unknown(nat, nat, vec(vari(1)), nat),
			"an entry of a wrong meta":            unknown(nat, nat, vec(hole(99, vari(0)))),
			"an entry of a Pi of no such Fam":     unknown(nat, pi(nat, fam(99))),
		},
		api.ErrType: {
			"a Fam of too few":                     unknown(fam(vecF)),
			"a Fam of too many":                    unknown(fam(natF, zero)),
			"a Fam of another type":                unknown(vec(none)),
			"a Fam of a Lam":                       unknown(vec(lam(zero))),
			"a Fam of an entry of another type":    unknown(vec(vari(0)), nat, tm),
			"a Fam of an entry that is a function": unknown(vec(vari(0)), pi(nat, nat)),
			"a Param of another type":              param(vec(none)),
			"an entry that is a Sort":              unknown(nat, sort),
			"an entry that is a Const":             unknown(nat, nat, zero),
			"an entry that is a Lam":               unknown(nat, lam(nat)),
			"an entry that is a kind":              unknown(nat, nat, pi(nat, sort)),
			"an entry of another type":             unknown(nat, tm, vec(vari(0))),
			"an entry, ahead of one of no scope":   unknown(nat, vec(none), fam(99)),
		},
		api.ErrLimit: {
			"41 entries":                        unknown(nat, times(41, nat)...),
			"41 entries, all of them wrong":     unknown(nat, times(41, zero)...),
			"41 entries, which may not be":      unknown(nat, times(41, node(-1, 0))...),
			"41 entries, and no Fam":            unknown(sort, times(41, nat)...),
			"41 entries of a Param":             param(nat, times(41, nat)...),
			"many entries":                      unknown(nat, times(10000, nat)...),
			"41 entries, and a type of too few": unknown(fam(vecF), times(41, nat)...),
		},
	}
}

// Of each wrong meta that stands in a place of those known the place, and what is wrong, is told.
func TestTheFirstMetaThatIsWrong(t *testing.T) {
	for e, l := range bad() {
		for name, m := range l {
			for at := range len(known()) + 1 {
				holdDecls(t, fmt.Sprint(name, " at ", at), system(), slices.Insert(known(), at, m), place{at, e})
				holdDecls(t, fmt.Sprint(name, " at the end"), system(), append(known()[:at:at], m), place{at, e})
			}
		}
	}
}

// What is wrong with a later one counts for nothing, whichever error that is.
func TestALaterMetaThatIsWrong(t *testing.T) {
	for e, l := range bad() {
		for name, m := range l {
			for _, later := range bad() {
				for behind, n := range later {
					for at := range len(known()) + 1 {
						first := slices.Insert(known(), at, m)
						holdDecls(t, fmt.Sprint(name, " at ", at, " ahead of ", behind), system(), append(first, n), place{at, e})
						holdDecls(t, fmt.Sprint(name, " at ", at, " next to ", behind), system(), slices.Insert(first, at+1, n), place{at, e})
					}
				}
			}
		}
	}
}

func TestHowManyMetas(t *testing.T) {
	for n, want := range map[int]place{1: right, 39: right, 40: right, 41: {0, api.ErrLimit}, 42: {0, api.ErrLimit}, 100000: {0, api.ErrLimit}} {
		l := slices.Repeat(some(unknown(nat, nat)), n)
		holdDecls(t, fmt.Sprint(n), system(), l, want)
		// Too many is told ahead of what is wrong with one.
		for _, at := range []int{0, n / 2, n - 1} {
			for e, m := range map[api.Errno]api.MetaDecl{api.ErrArg: unknown(sort), api.ErrScope: unknown(nat, fam(99)), api.ErrType: unknown(vec(none))} {
				l, told := slices.Clone(l), want
				if l[at] = m; n <= 40 {
					told = place{at, e}
				}
				holdDecls(t, fmt.Sprint(n, " with a wrong one at ", at), system(), l, told)
			}
		}
	}
}

func TestHowManyEntries(t *testing.T) {
	for n, e := range map[int]api.Errno{0: api.OK, 1: api.OK, 39: api.OK, 40: api.OK, 41: api.ErrLimit, 42: api.ErrLimit, 1001: api.ErrLimit} {
		want := place{2, e}
		if e == api.OK {
			want = right
		}
		holdDecls(t, fmt.Sprint(n, " entries"), system(), some(unknown(nat), param(nat), unknown(nat, times(n, nat)...), unknown(nat, times(n, nat)...)), want)
	}
	ahead := times(39, nat)
	holdDecls(t, "40 entries, the last one of the first", system(), some(unknown(vec(vari(39)), append(ahead, vec(vari(38)))...)), right)
	holdDecls(t, "40 entries, a type of none of them", system(), some(unknown(vec(vari(40)), append(ahead, nat)...)), place{0, api.ErrScope})
	holdDecls(t, "40 entries, the last one wrong", system(), some(unknown(sort, append(ahead, vec(vari(39)))...)), place{0, api.ErrScope})
}

// What is wrong with the entries is told ahead of what is wrong with the type, or with the Param.
func TestEntriesAheadOfTheType(t *testing.T) {
	entries := map[api.Errno][]api.Term{
		api.ErrArg:   list(nat, node(-1, 0)),
		api.ErrScope: list(nat, fam(99)),
		api.ErrType:  list(nat, zero),
		api.ErrLimit: times(41, nat),
	}
	wrong := list(sort, pi(nat, nat), vari(0), node(-1, 0), fam(-1), fam(99), vec(vari(99)), fam(vecF), vec(none), nat)
	for e, ctx := range entries {
		for _, a := range wrong {
			holdDecls(t, "wrong entries", system(), some(unknown(nat), unknown(a, ctx...)), place{1, e})
			holdDecls(t, "wrong entries of a Param", system(), some(unknown(nat), param(a, ctx...)), place{1, e})
		}
	}
}

// A type that is no Fam is ErrArg, whatever check would say of it.
func TestATypeThatIsNoFam(t *testing.T) {
	for name, a := range map[string]api.Term{
		"a Sort":                   sort,
		"a Pi, a type":             pi(nat, nat),
		"a Pi, a kind":             pi(nat, sort),
		"a Pi of no such Fam":      pi(fam(99), nat),
		"a Pi of what is no type":  pi(zero, nat),
		"a Lam":                    lam(nat),
		"a Var that there is":      vari(0),
		"a Var that there is none": vari(99),
		"a Const":                  zero,
		"a Const that is a family": con(natF),
		"no such Const":            con(99),
		"a Meta":                   hole(0),
		"no such Meta":             hole(99),
		"no Kind":                  node(-1, 0),
	} {
		for _, ctx := range [][]api.Term{nil, list(nat), times(40, tm)} {
			holdDecls(t, name, system(), some(unknown(nat), unknown(a, ctx...)), place{1, api.ErrArg})
			holdDecls(t, name+", of a Param", system(), some(unknown(nat), param(a, ctx...)), place{1, api.ErrArg})
		}
	}
}

func TestParamsAndTheirEntries(t *testing.T) {
	for name, a := range map[string]api.Term{"nat": nat, "a row": vec(zero), "no such Fam": fam(99), "too few": fam(vecF), "an entry": vec(vari(0))} {
		want := map[string]place{"no such Fam": {1, api.ErrScope}, "too few": {1, api.ErrType}, "an entry": {1, api.ErrScope}}[name]
		holdDecls(t, name+", no entries", system(), some(unknown(nat), param(a)), want)
		holdDecls(t, name+", empty entries", system(), some(unknown(nat), param(a, list()...)), want)
		for _, n := range []int{1, 2, 40} {
			holdDecls(t, name+", entries", system(), some(unknown(nat), param(a, times(n, nat)...)), place{1, api.ErrArg})
		}
	}
	holdDecls(t, "without Param", system(), some(unknown(nat), unknown(vec(vari(0)), nat)), right)
}

// A meta speaks of those ahead of it alone: of itself, and of those behind it, it can tell nothing.
func TestMetasOfMetas(t *testing.T) {
	for name, speak := range map[string]func(n api.Term) api.MetaDecl{
		"in the type":            func(n api.Term) api.MetaDecl { return unknown(vec(n)) },
		"in the type, below":     func(n api.Term) api.MetaDecl { return unknown(plus(zero, succ(succ(n)), zero), tm) },
		"in an entry":            func(n api.Term) api.MetaDecl { return unknown(tm, vec(n)) },
		"in a later entry":       func(n api.Term) api.MetaDecl { return unknown(tm, nat, tm, vec(succ(n))) },
		"in an entry that binds": func(n api.Term) api.MetaDecl { return unknown(nat, pi(nat, vec(n))) },
		"in a Param":             func(n api.Term) api.MetaDecl { return param(vec(n)) },
	} {
		for _, ahead := range []int{0, 1, 5, 37} {
			l := slices.Repeat(some(unknown(nat)), ahead+3)
			for of := range ahead + 3 {
				want := right
				if of >= ahead {
					want = place{ahead, api.ErrScope}
				}
				l[ahead] = speak(hole(of))
				// Those behind speak of none: they are right by themselves.
				holdDecls(t, fmt.Sprint(name, ", ", ahead, " of ", of), system(), l, want)
			}
		}
	}
	one := unknown(nat, nat)
	holdDecls(t, "of too few Args", system(), some(one, unknown(vec(hole(0)))), place{1, api.ErrType})
	holdDecls(t, "of too many Args", system(), some(one, unknown(vec(hole(0, zero, zero)))), place{1, api.ErrType})
	holdDecls(t, "of an Arg of another type", system(), some(one, unknown(nat, vec(hole(0, none)))), place{1, api.ErrType})
	holdDecls(t, "of another type", system(), some(unknown(tm), unknown(vec(hole(0)))), place{1, api.ErrType})
	holdDecls(t, "of no such Arg", system(), some(one, unknown(nat, vec(hole(0, vari(0))))), place{1, api.ErrScope})
}

// P12.2

// The chapter's example.
func TestExamples(t *testing.T) {
	holdDecls(t, "one of nat", system(), some(unknown(nat)), right)
	holdSub(t, "s z", put(some(unknown(nat)), one), api.OK)
	holdSub(t, "Lam", put(some(unknown(nat)), lam(vari(0))), api.ErrType)
	holdSub(t, "Lam of s z", put(some(unknown(nat)), lam(one)), api.ErrType)
}

func TestHowManyTerms(t *testing.T) {
	for n, want := range map[int]api.Errno{1: api.OK, 39: api.OK, 40: api.OK, 41: api.ErrLimit, 42: api.ErrLimit, 100000: api.ErrLimit} {
		x := put(slices.Repeat(some(unknown(nat)), n), times(n, one)...)
		holdSub(t, fmt.Sprint(n), x, want)
		holdSub(t, fmt.Sprint(n, ", over metas"), x.with(x.delta...), want)
		// Too many metas are told ahead of how many terms there are, and both ahead of what these are.
		for _, as := range []int{0, 1, 39, 40, 41, n - 1, n + 1, n} {
			for e, term := range map[api.Errno]api.Term{api.OK: one, api.ErrType: none, api.ErrArg: con(-1), api.ErrScope: con(99)} {
				x.theta = times(as, term)
				told := want
				switch {
				case n <= 40 && as != n:
					told = api.ErrType
				case n <= 40:
					told = e
				}
				holdSub(t, fmt.Sprint(as, " for ", n), x, told)
			}
		}
	}
}

func TestAsManyTerms(t *testing.T) {
	for n := range 6 {
		for m := range 6 {
			want := api.OK
			if n != m {
				want = api.ErrType
			}
			holdSub(t, fmt.Sprint(m, " for ", n), put(slices.Repeat(some(unknown(nat)), n), times(m, zero)...), want)
		}
	}
	holdSub(t, "nil for nil", terms{}, api.OK)
	holdSub(t, "empty for nil", put(nil, list()...), api.OK)
	holdSub(t, "nil for empty", put(some()), api.OK)
	holdSub(t, "one for nil", put(nil, one), api.ErrType)
	holdSub(t, "nil for one", put(some(unknown(nat))), api.ErrType)
	// How many there are is told ahead of what is wrong with them, whatever that is.
	holdSub(t, "too few, wrong ones", put(some(unknown(fam(99)), unknown(node(-1, 0)))), api.ErrType)
	holdSub(t, "too many, wrong ones", put(some(unknown(fam(-1))), con(-1), con(99)), api.ErrType)
	// Of none, what is around is not asked.
	holdSub(t, "none, behind what is wrong", terms{sig: types(con(-1)), metas: some(unknown(con(-1))), ext: list(con(-1))}, api.OK)
}

// row is how a term fits one meta.
type row struct {
	m    api.MetaDecl
	term api.Term
	e    api.Errno
}

func TestATermForOneMeta(t *testing.T) {
	natural := unknown(nat)
	inNat := unknown(nat, nat)
	fun := unknown(nat, pi(nat, nat))
	for name, r := range map[string]row{
		"z":                             {natural, zero, api.OK},
		"s s z":                         {natural, two, api.OK},
		"another type":                  {natural, none, api.ErrType},
		"s of another type":             {natural, succ(none), api.ErrType},
		"s alone":                       {natural, con(succC), api.ErrType},
		"no such constant":              {natural, con(99), api.ErrScope},
		"a constant that is a family":   {natural, con(natF), api.ErrScope},
		"no such variable":              {natural, vari(0), api.ErrScope},
		"no such meta":                  {natural, hole(0), api.ErrScope},
		"what may not be":               {natural, succ(con(-1)), api.ErrArg},
		"a type":                        {natural, nat, api.ErrType},
		"a Sort":                        {natural, sort, api.ErrType},
		"a Pi":                          {natural, pi(nat, nat), api.ErrType},
		"an entry":                      {inNat, vari(0), api.OK},
		"of an entry":                   {inNat, succ(vari(0)), api.OK},
		"none of its entries":           {inNat, two, api.OK},
		"behind its entries":            {inNat, vari(1), api.ErrScope},
		"a Lam in entries":              {inNat, lam(vari(0)), api.ErrType},
		"an entry that is a function":   {fun, vari(0, zero), api.OK},
		"it alone":                      {fun, vari(0), api.ErrType},
		"it of itself":                  {fun, vari(0, vari(0, zero)), api.OK},
		"it of too many":                {fun, vari(0, zero, zero), api.ErrType},
		"an entry of another type":      {unknown(nat, tm), vari(0), api.ErrType},
		"the first of two":              {unknown(nat, nat, tm), vari(1), api.OK},
		"the last of two":               {unknown(tm, nat, tm), vari(0), api.OK},
		"a type of an entry":            {unknown(vec(vari(1)), nat, vec(vari(0))), vari(0), api.OK},
		"a type of another entry":       {unknown(vec(vari(1)), nat, vec(zero)), vari(0), api.ErrType},
		"a type that is a function":     {unknown(pi(nat, nat)), lam(succ(vari(0))), api.OK},
		"such a type, and no Lam":       {unknown(pi(nat, nat)), zero, api.ErrType},
		"such a type, of an entry":      {unknown(pi(nat, vec(vari(1))), vec(zero), nat), lam(vari(2)), api.ErrType},
		"a type that is no family":      {unknown(fam(99)), zero, api.ErrType},
		"a type that is no type":        {unknown(zero), zero, api.ErrType},
		"a type that is a Sort":         {unknown(sort), nat, api.ErrType},
		"entries that are no types":     {unknown(nat, zero, sort, fam(99)), one, api.OK},
		"such an entry":                 {unknown(nat, zero), vari(0), api.ErrType},
		"such an entry, of that family": {unknown(fam(99), fam(99)), vari(0), api.OK},
		"of two rows":                   {unknown(vec(one)), next(zero, one, none), api.OK},
		"of two rows, another one":      {unknown(vec(two)), next(zero, one, none), api.ErrType},
	} {
		holdSub(t, name, put(some(r.m), r.term), r.e)
		// It stands anywhere.
		holdSub(t, name+", behind another one", put(some(unknown(tm), r.m), self, r.term), r.e)
		holdSub(t, name+", ahead of another one", put(some(r.m, unknown(tm)), r.term, self), r.e)
	}
}

// A later meta speaks of those ahead of it: of them the terms are taken.
func TestMetasThatAreFilled(t *testing.T) {
	rows := some(unknown(nat), unknown(vec(hole(0))))
	holdSub(t, "a type of the meta ahead", put(rows, zero, none), api.OK)
	holdSub(t, "another one", put(rows, one, none), api.ErrType)
	holdSub(t, "one more", put(rows, one, next(zero, two, none)), api.OK)
	deltas := map[string][]api.MetaDecl{
		"an entry":            some(unknown(nat), unknown(vec(zero), vec(hole(0)))),
		"an entry, its type":  some(unknown(nat), unknown(vec(hole(0)), vec(zero))),
		"both":                some(unknown(nat), unknown(vec(hole(0)), vec(hole(0)))),
		"in entries":          some(unknown(nat, nat), unknown(vec(hole(0, vari(1))), nat, vec(hole(0, vari(0))))),
		"one of two":          some(unknown(nat), unknown(nat), unknown(vec(hole(1)), vec(hole(0)))),
		"of the first of two": some(unknown(nat), unknown(nat), unknown(vec(hole(0)), vec(hole(0)))),
		"below what binds":    some(unknown(nat, nat), unknown(tm, pis(nat, vec(hole(0, vari(0))), tm), nat, vec(hole(0, vari(0))))),
	}
	for name, r := range map[string]struct {
		of    string
		theta []api.Term
		e     api.Errno
	}{
		"an entry of z":                {"an entry", list(zero, vari(0)), api.OK},
		"an entry of s z":              {"an entry", list(one, vari(0)), api.ErrType},
		"a type of z":                  {"an entry, its type", list(zero, vari(0)), api.OK},
		"a type of s z":                {"an entry, its type", list(one, vari(0)), api.ErrType},
		"both of z":                    {"both", list(zero, vari(0)), api.OK},
		"both of s s z":                {"both", list(two, vari(0)), api.OK},
		"both of a Lam":                {"both", list(lam(zero), vari(0)), api.ErrType},
		"what is of itself":            {"in entries", list(vari(0), vari(0)), api.OK},
		"what is of s of it":           {"in entries", list(succ(vari(0)), vari(0)), api.OK},
		"what is z":                    {"in entries", list(zero, vari(0)), api.OK},
		"of s of it, one more":         {"in entries", list(succ(vari(0)), next(vari(1), zero, none)), api.ErrType},
		"of s z, one more":             {"in entries", list(one, next(zero, vari(1), none)), api.OK},
		"the same for both":            {"one of two", list(one, one, vari(0)), api.OK},
		"another one for each":         {"one of two", list(one, zero, vari(0)), api.ErrType},
		"another one, which it is":     {"one of two", list(one, zero, none), api.OK},
		"the first one":                {"of the first of two", list(one, zero, vari(0)), api.OK},
		"the first one, and no other":  {"of the first of two", list(one, zero, none), api.ErrType},
		"a function of what binds":     {"below what binds", list(succ(vari(0)), vari(2, vari(1), vari(0))), api.OK},
		"the same of another variable": {"below what binds", list(succ(vari(0)), vari(2, succ(vari(1)), vari(0))), api.ErrType},
		"the same of z":                {"below what binds", list(one, vari(2, succ(vari(1)), vari(0))), api.OK},
		"the same, not filled":         {"below what binds", list(vari(0), vari(2, vari(1), vari(0))), api.OK},
	} {
		x := put(deltas[r.of], r.theta...)
		holdSub(t, name, x, r.e)
		holdDecls(t, name, x.sig, x.delta, right)
		// The metas that are over all are others: they count for nothing.
		holdSub(t, name+", over others", x.with(unknown(tm), unknown(tm, tm), param(nat)), r.e)
		// What lies behind the terms is moved past it.
		holdSub(t, name+", behind entries", x.behind(tm, nat, vec(vari(0)), tm), r.e)
	}
}

// What meta says of the context and of the type is told as it is, ahead of what is wrong with the term.
func TestWhatMetaSays(t *testing.T) {
	function := unknown(nat, pi(nat, nat))
	deepNat := some(unknown(nat))
	for name, r := range map[string]struct {
		delta []api.MetaDecl
		theta []api.Term
		e     api.Errno
	}{
		"ErrArg: an entry that may not be":          {some(unknown(nat, fam(-1))), list(zero), api.ErrArg},
		"ErrArg: a type that may not be":            {some(unknown(fam(natF, con(-1)))), list(zero), api.ErrArg},
		"ErrArg: 1002 entries":                      {some(unknown(nat, times(mostEntries+2, nat)...)), list(zero), api.ErrArg},
		"ErrArg: 1001 entries, which meta has":      {some(unknown(nat, times(mostEntries+1, nat)...)), list(zero), api.ErrArg},
		"OK: 1000 entries":                          {some(unknown(nat, times(mostEntries, nat)...)), list(vari(mostEntries - 1)), api.OK},
		"ErrScope: a meta of itself":                {some(unknown(vec(hole(0)))), list(none), api.ErrScope},
		"ErrScope: an entry of itself":              {some(unknown(nat, vec(hole(0)))), list(zero), api.ErrScope},
		"ErrScope: a meta of one behind":            {some(unknown(nat), unknown(vec(hole(2))), unknown(nat)), list(zero, none, zero), api.ErrScope},
		"ErrScope: a meta of none":                  {some(unknown(nat), unknown(vec(hole(99)))), list(zero, none), api.ErrScope},
		"ErrScope: ahead of an entry behind":        {some(unknown(nat, vec(hole(0)), fam(-1))), list(zero), api.ErrScope},
		"ErrArg: ahead of an entry behind":          {some(unknown(nat, fam(-1), vec(hole(0)))), list(zero), api.ErrArg},
		"ErrScope: an entry, ahead of the type":     {some(unknown(fam(-1), vec(hole(0)))), list(zero), api.ErrScope},
		"ErrArg: an entry, ahead of the type":       {some(unknown(vec(hole(0)), fam(-1))), list(zero), api.ErrArg},
		"ErrScope: ahead of what the term is":       {some(unknown(vec(hole(0)))), list(con(-1)), api.ErrScope},
		"ErrArg: ahead of what the term is":         {some(unknown(fam(-1))), list(con(99)), api.ErrArg},
		"OK: 60 deep":                               {append(deepNat, unknown(nat, vec(hole(0)))), list(numeral(58), zero), api.OK},
		"ErrLimit: an entry of 61 deep":             {append(deepNat, unknown(nat, vec(hole(0)))), list(numeral(59), zero), api.ErrLimit},
		"ErrLimit: a type of 61 deep":               {append(deepNat, unknown(vec(hole(0)))), list(numeral(59), zero), api.ErrLimit},
		"ErrLimit: ahead of the term":               {append(deepNat, unknown(vec(hole(0)))), list(numeral(59), con(99)), api.ErrLimit},
		"ErrLimit: ahead of the type":               {append(deepNat, unknown(fam(-1), vec(hole(0)))), list(numeral(59), zero), api.ErrLimit},
		"ErrType: what takes nothing, in an entry":  {some(function, unknown(nat, vec(hole(0, sort)))), list(vari(0, zero), zero), api.ErrType},
		"ErrType: what takes nothing, in a type":    {some(function, unknown(vec(hole(0, sort)))), list(vari(0, zero), con(99)), api.ErrType},
		"OK: what takes something":                  {some(function, unknown(vec(hole(0, lam(vari(0)))))), list(vari(0, zero), none), api.OK},
		"ErrArg: more than 200 Args":                {some(unknown(nat), unknown(vec(hole(0, times(201, zero)...)))), list(zero, none), api.ErrArg},
		"OK: 200 Args of a meta that has no entry":  {some(unknown(nat), unknown(vec(hole(0, times(200, zero)...)))), list(zero, none), api.OK},
		"ErrType: what the entries become is asked": {some(unknown(nat), unknown(nat, vec(hole(0)))), list(one, vari(0)), api.ErrType},
	} {
		holdSub(t, name, put(r.delta, r.theta...), r.e)
		holdSub(t, name+", and a later one that is wrong", put(append(slices.Clone(r.delta), unknown(fam(-1))), append(slices.Clone(r.theta), con(-1))...), orElse(r.e, api.ErrArg))
	}
	// A meta of itself becomes twice as great each time.
	double := con(appC, vari(0), vari(0))
	for n, e := range map[int]api.Errno{10: api.ErrType, 12: api.ErrLimit, 50: api.ErrLimit} {
		grown := vari(0)
		for range n {
			grown = hole(0, grown)
		}
		holdSub(t, fmt.Sprint("doubled times ", n), put(some(unknown(tm, tm), unknown(fam(tmF, grown), tm)), double, vari(0)), e)
		holdSub(t, fmt.Sprint("an entry, doubled times ", n), put(some(unknown(tm, tm), unknown(tm, tm, fam(tmF, grown))), double, vari(0)), e)
	}
}

// orElse is an error, or another one where there is none.
func orElse(e, other api.Errno) api.Errno {
	if e == api.OK {
		return other
	}
	return e
}

// Terms stand behind ext, and that behind their own contexts: these are nearer.
func TestBehindEntries(t *testing.T) {
	ext := list(nat, vec(vari(0)), tm)
	for name, r := range map[string]row{
		"the last entry around":                  {unknown(tm), vari(0), api.OK},
		"the row":                                {unknown(nat), vari(1), api.ErrType},
		"the number":                             {unknown(nat), vari(2), api.OK},
		"no such":                                {unknown(nat), vari(3), api.ErrScope},
		"an own entry":                           {unknown(nat, nat), vari(0), api.OK},
		"the last entry around, past it":         {unknown(tm, nat), vari(1), api.OK},
		"the number, past it":                    {unknown(nat, tm), vari(3), api.OK},
		"the number, past two":                   {unknown(nat, tm, tm), vari(4), api.OK},
		"no such, past it":                       {unknown(nat, nat), vari(4), api.ErrScope},
		"of both":                                {unknown(tm, tm), con(appC, vari(0), vari(1)), api.OK},
		"of both, the other way":                 {unknown(nat, tm), con(appC, vari(0), vari(3)), api.ErrType},
		"a row of an own number":                 {unknown(vec(vari(1)), nat, vec(vari(0))), vari(0), api.OK},
		"a row of the number around":             {unknown(vec(vari(2))), vari(1), api.OK},
		"a row of the number around, past one":   {unknown(vec(vari(3)), tm), vari(2), api.OK},
		"a row of an own one, not of the around": {unknown(vec(vari(0)), nat), vari(2), api.ErrType},
		"a row of an entry there is not":         {unknown(vec(vari(9))), vari(1), api.ErrType},
	} {
		holdSub(t, name, put(some(r.m), r.term).behind(ext...), r.e)
		holdSub(t, name+", behind another one", put(some(unknown(nat, nat), r.m), vari(0), r.term).behind(ext...), r.e)
	}
	// What a term has of what lies around goes with it into later types.
	delta := some(unknown(nat, nat), unknown(vec(hole(0, vari(0))), nat))
	for _, n := range list(vari(0), vari(1), succ(vari(1)), zero) {
		holdSub(t, "a row of z or of it", put(delta, n, next(zero, one, none)).behind(nat), api.ErrType)
	}
	holdSub(t, "a row of the number around", put(delta, vari(1), vari(1)).behind(nat, vec(vari(0))), api.ErrType)
	holdSub(t, "a row of the number around, past one", put(delta, vari(2), vari(1)).behind(nat, vec(vari(0))), api.OK)
	holdSub(t, "a row of one more", put(delta, succ(vari(2)), next(vari(2), vari(0), vari(1))).behind(nat, vec(vari(0))), api.OK)
	// 1000 entries in all, which is check's to tell.
	holdSub(t, "1000 around", put(some(unknown(nat)), vari(mostEntries-1)).behind(times(mostEntries, nat)...), api.OK)
	holdSub(t, "1001 around", put(some(unknown(nat)), vari(0)).behind(times(mostEntries+1, nat)...), api.ErrArg)
	holdSub(t, "1000 in all", put(some(unknown(nat, nat, nat)), vari(mostEntries-1)).behind(times(mostEntries-2, nat)...), api.OK)
	holdSub(t, "1001 in all", put(some(unknown(nat, nat, nat)), vari(0)).behind(times(mostEntries-1, nat)...), api.ErrArg)
	holdSub(t, "one that may not be", put(some(unknown(nat)), zero).behind(nat, con(-1)), api.ErrArg)
	holdSub(t, "ones that are no types", put(some(unknown(nat)), zero).behind(zero, fam(99), sort), api.OK)
}

// Terms are over metas, which are others than those that they are for.
func TestTermsOfMetas(t *testing.T) {
	over := some(unknown(nat), unknown(nat, nat), unknown(vec(hole(0))), param(tm), unknown(tm, pi(tm, tm)))
	for name, r := range map[string]row{
		"a meta":                     {unknown(nat), hole(0), api.OK},
		"of a meta":                  {unknown(nat), succ(hole(0)), api.OK},
		"a meta of an Arg":           {unknown(nat), hole(1, zero), api.OK},
		"a meta of a meta":           {unknown(nat), hole(1, hole(0)), api.OK},
		"a meta of an entry":         {unknown(nat, nat), hole(1, vari(0)), api.OK},
		"a meta without its Arg":     {unknown(nat), hole(1), api.ErrType},
		"a meta with one too many":   {unknown(nat), hole(0, zero), api.ErrType},
		"a meta of another type":     {unknown(nat), hole(3), api.ErrType},
		"a meta of another Arg":      {unknown(nat), hole(1, none), api.ErrType},
		"no such meta":               {unknown(nat), hole(5), api.ErrScope},
		"no such meta, in something": {unknown(nat), succ(hole(5)), api.ErrScope},
		"a meta of a meta's type":    {unknown(vec(zero)), hole(2), api.ErrType},
		"a Param, no Param is asked": {unknown(tm), hole(3), api.OK},
		"of a function":              {unknown(tm), hole(4, lam(vari(0))), api.OK},
		"of none":                    {unknown(tm), hole(4, hole(3)), api.ErrType},
	} {
		holdSub(t, name, put(some(r.m), r.term).with(over...), r.e)
		holdSub(t, name+", behind another one", put(some(unknown(nat), r.m), hole(0), r.term).with(over...), r.e)
	}
	// A meta in a type of delta is one of delta; the term that stands for it may be of one of those that all is over.
	delta := some(unknown(nat), unknown(vec(hole(0))))
	holdSub(t, "a row of the meta", put(delta, hole(0), hole(2)).with(over...), api.OK)
	holdSub(t, "a row of another one", put(delta, hole(1, zero), hole(2)).with(over...), api.ErrType)
	holdSub(t, "one more", put(delta, succ(hole(0)), next(hole(0), hole(0), hole(2))).with(over...), api.OK)
	holdSub(t, "a meta of metas that there is", put(some(unknown(tm), unknown(vec(hole(0)))), hole(3), hole(2)).with(over...), api.ErrType)
	holdSub(t, "metas that may not be", put(some(unknown(nat)), zero).with(unknown(con(-1))), api.ErrArg)
	holdSub(t, "metas that are no types", put(some(unknown(nat)), zero).with(unknown(zero, fam(99))), api.OK)
	holdSub(t, "41 metas", put(some(unknown(nat)), hole(40)).with(slices.Repeat(some(unknown(nat)), 41)...), api.OK)
}

// For a Param stands a variable, or a meta that is a Param itself.
func TestTermsForParams(t *testing.T) {
	over := some(param(tm), unknown(tm), param(nat), unknown(tm, tm), param(tm, tm))
	ext := list(tm, pi(tm, tm), nat)
	for name, r := range map[string]struct {
		term      api.Term
		typed, is api.Errno
	}{
		"a Var":                          {vari(2), api.OK, api.OK},
		"a Var of another type":          {vari(0), api.ErrType, api.ErrType},
		"a Var that there is not":        {vari(3), api.ErrScope, api.ErrScope},
		"a Var with Args":                {vari(1, vari(2)), api.OK, api.ErrType},
		"a Var with Args there are not":  {vari(1, vari(3)), api.ErrScope, api.ErrScope},
		"a Const":                        {self, api.OK, api.ErrType},
		"a Const there is not":           {con(99), api.ErrScope, api.ErrScope},
		"a Const of variables":           {con(appC, vari(2), vari(2)), api.OK, api.ErrType},
		"a Param":                        {hole(0), api.OK, api.OK},
		"a Meta that is none":            {hole(1), api.OK, api.ErrType},
		"a Param of another type":        {hole(2), api.ErrType, api.ErrType},
		"a Meta there is not":            {hole(5), api.ErrScope, api.ErrScope},
		"the greatest Meta":              {hole(math.MaxInt), api.ErrScope, api.ErrScope},
		"a Meta below 0":                 {hole(-1), api.ErrArg, api.ErrArg},
		"a Meta that is none, of an Arg": {hole(3, vari(2)), api.OK, api.ErrType},
		"a Param with an entry":          {hole(4, vari(2)), api.OK, api.OK},
		"such a Param, without its Arg":  {hole(4), api.ErrType, api.ErrType},
		"a Param with too many Args":     {hole(0, vari(2)), api.ErrType, api.ErrType},
		"a Lam":                          {lam(vari(0)), api.ErrType, api.ErrType},
		"what may not be":                {vari(-1), api.ErrArg, api.ErrArg},
		"a Sort":                         {sort, api.ErrType, api.ErrType},
	} {
		holdSub(t, name+", for no Param", put(some(unknown(tm)), r.term).with(over...).behind(ext...), r.typed)
		holdSub(t, name, put(some(param(tm)), r.term).with(over...).behind(ext...), r.is)
		holdSub(t, name+", behind another one", put(some(param(nat), param(tm)), vari(0), r.term).with(over...).behind(ext...), r.is)
		holdSub(t, name+", ahead of another one", put(some(param(tm), param(nat)), r.term, vari(0)).with(over...).behind(ext...), r.is)
		holdSub(t, name+", beside no Param", put(some(unknown(tm), param(tm)), r.term, vari(2)).with(over...).behind(ext...), r.typed)
	}
	// Which ones of delta are Params counts for nothing: the term is over the others.
	holdSub(t, "a Meta that is a Param of delta alone", put(some(param(tm), param(tm)), hole(0), hole(0)).with(unknown(tm)), api.ErrType)
	holdSub(t, "a Meta that is a Param of the others alone", put(some(unknown(tm), param(tm)), self, hole(0)).with(param(tm)), api.OK)
	// A Param speaks of metas ahead as others do.
	rows := some(param(nat), param(vec(hole(0))))
	holdSub(t, "a row of the number", put(rows, vari(1), vari(0)).behind(nat, vec(vari(0))), api.OK)
	holdSub(t, "a row of another number", put(rows, vari(2), vari(0)).behind(nat, nat, vec(vari(0))), api.ErrType)
	// A Param with entries is wrong by Decls; its entries are variables as well.
	holdSub(t, "an entry of its own", put(some(param(tm, tm)), vari(0)), api.OK)
	holdSub(t, "an entry around, past it", put(some(param(tm, nat)), vari(1)).behind(tm), api.OK)
	holdSub(t, "of a function", put(some(param(pi(tm, tm))), lam(vari(0))), api.ErrType)
}

// unfit are metas and terms for them that do not fit, wherever they stand.
func unfit() map[api.Errno][]row {
	return map[api.Errno][]row{
		api.ErrArg:   {{m: unknown(nat), term: con(-1)}, {m: unknown(nat, fam(-1)), term: zero}, {m: unknown(node(-1, 0)), term: zero}},
		api.ErrScope: {{m: unknown(nat), term: con(99)}, {m: unknown(nat), term: vari(99)}, {m: unknown(nat, vec(hole(99))), term: zero}, {m: unknown(vec(hole(99))), term: zero}},
		api.ErrType:  {{m: unknown(nat), term: none}, {m: param(nat), term: zero}, {m: unknown(nat), term: lam(zero)}},
		api.ErrLimit: {{m: unknown(vec(hole(1))), term: none}, {m: unknown(nat, vec(hole(1))), term: zero}},
	}
}

// The first one that does not fit is told, whatever is wrong with a later one.
func TestTheFirstTermThatIsWrong(t *testing.T) {
	fits := put(some(unknown(nat), unknown(nat), unknown(vec(hole(0)))), zero, numeral(59), none)
	holdSub(t, "all fit", fits, api.OK)
	for e, l := range unfit() {
		for _, r := range l {
			for at := range 4 {
				// What is too great is so by the meta 1, which must be ahead.
				if e == api.ErrLimit && at < 2 {
					continue
				}
				x := fits
				x.delta, x.theta = slices.Insert(slices.Clone(x.delta), at, r.m), slices.Insert(slices.Clone(x.theta), at, r.term)
				holdSub(t, fmt.Sprint("one at ", at), x, e)
				for _, later := range unfit() {
					for _, s := range later {
						y := x
						y.delta, y.theta = append(slices.Clone(x.delta), s.m), append(slices.Clone(x.theta), s.term)
						holdSub(t, fmt.Sprint("one at ", at, ", and one at the end"), y, e)
						y.delta, y.theta = slices.Insert(slices.Clone(x.delta), at+1, s.m), slices.Insert(slices.Clone(x.theta), at+1, s.term)
						holdSub(t, fmt.Sprint("two at ", at), y, e)
					}
				}
			}
		}
	}
}

// P12.3

func TestSizesAndParams(t *testing.T) {
	long := unknown(nat, times(100000, nat)...)
	for name, r := range map[string]struct {
		l      []api.MetaDecl
		sizes  []int
		params []bool
	}{
		"nil":                  {nil, nil, nil},
		"empty":                {some(), nil, nil},
		"one without entries":  {some(unknown(nat)), []int{0}, []bool{false}},
		"one with entries":     {some(unknown(nat, nat, tm)), []int{2}, []bool{false}},
		"a Param":              {some(param(nat)), []int{0}, []bool{true}},
		"a Param with entries": {some(param(nat, nat)), []int{1}, []bool{true}},
		"noughts":              {some(api.MetaDecl{}), []int{0}, []bool{false}},
		"empty entries":        {some(unknown(nat, list()...)), []int{0}, []bool{false}},
		"many":                 {known(), []int{0, 1, 0, 2, 0, 0}, []bool{false, false, true, false, false, true}},
		"the other way":        {some(param(nat), unknown(nat, nat), unknown(nat)), []int{0, 1, 0}, []bool{true, false, false}},
		"wrong ones":           {some(unknown(con(-1), zero, con(-1), sort), param(sort)), []int{3, 0}, []bool{false, true}},
		"a long one":           {some(unknown(nat), long, param(nat)), []int{0, 100000, 0}, []bool{false, false, true}},
	} {
		if sizes := metas.Sizes(r.l); !slices.Equal(sizes, r.sizes) {
			t.Errorf("%s: sizes %v, not %v", name, sizes, r.sizes)
		}
		if params := metas.Params(r.l); !slices.Equal(params, r.params) {
			t.Errorf("%s: Params %v, not %v", name, params, r.params)
		}
	}
}

// There is no limit to how many metas are told of.
func TestSizesAndParamsOfMany(t *testing.T) {
	for _, n := range []int{40, 41, 1000, 100000} {
		var l []api.MetaDecl
		for i := range n {
			l = append(l, api.MetaDecl{Ctx: times(i%7, nat), T: nat, Param: i%3 == 0})
		}
		sizes, params := metas.Sizes(l), metas.Params(l)
		if len(sizes) != n || len(params) != n {
			t.Fatalf("%d: %d, %d", n, len(sizes), len(params))
		}
		for i := range n {
			if sizes[i] != i%7 || params[i] != (i%3 == 0) {
				t.Fatalf("%d of %d: %d, %v", i, n, sizes[i], params[i])
			}
		}
	}
}
