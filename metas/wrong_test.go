package metas_test

import (
	"fmt"
	"math"
	"slices"
	"testing"

	"amanuensis/api"
	"amanuensis/metas"
)

// R1: wrong arguments

// deepest is as deep as a term may be nested.
const deepest = 1 << 16

// deep is a term below so many Lams, Pis or Fams.
func deep(n int, around func(t api.Term) api.Term) api.Term {
	t := nat
	for range n {
		t = around(t)
	}
	return t
}

// odd are terms that may not be.
func odd() map[string]api.Term {
	ring := list(con(0))
	ring[0].Args = ring
	shared := zero
	for range 200 {
		shared = con(appC, shared, shared)
	}
	return map[string]api.Term{
		"kind below 0":       node(-1, 0),
		"least kind":         node(math.MinInt, 0),
		"kind Kinds":         node(api.Kinds, 0),
		"greatest kind":      node(math.MaxInt, 0),
		"kind in a type":     vec(node(-1, 0)),
		"Sort with a head":   node(api.Sort, 1),
		"Sort of one":        node(api.Sort, 0, nat),
		"Pi with a head":     node(api.Pi, 1, nat, nat),
		"Pi of none":         node(api.Pi, 0),
		"Pi of one":          node(api.Pi, 0, nat),
		"Pi of three":        node(api.Pi, 0, nat, nat, nat),
		"Lam with a head":    node(api.Lam, -1, vari(0)),
		"Lam of none":        node(api.Lam, 0),
		"Lam of two":         node(api.Lam, 0, zero, zero),
		"Var below 0":        vari(-1),
		"least Var":          vari(math.MinInt),
		"Var below 0, below": vec(lam(succ(vari(-1)))),
		"Const below 0":      con(-1),
		"Fam below 0":        fam(-1),
		"least Fam":          fam(math.MinInt),
		"Meta below 0":       hole(-1),
		"least Meta":         hole(math.MinInt),
		"Meta below 0, of 1": vec(hole(-1, zero)),
		"4001 nodes":         fam(vecF, times(api.MaxSize, zero)...),
		"many nodes":         fam(natF, times(100000, zero)...),
		"61 deep":            deep(api.MaxDepth, vec),
		"61 deep in metas":   deep(api.MaxDepth, func(t api.Term) api.Term { return hole(0, t) }),
		"61 Pis":             pis(append(times(api.MaxDepth, nat), nat)...),
		"deep in Lams":       deep(deepest, lam),
		"deep in Fams":       deep(deepest, vec),
		"deep in metas":      deep(deepest, func(t api.Term) api.Term { return hole(0, t) }),
		"deep in Pis":        deep(deepest, func(t api.Term) api.Term { return pi(nat, t) }),
		"deep ahead of Pis":  deep(deepest, func(t api.Term) api.Term { return pi(t, sort) }),
		"a ring":             ring[0],
		"a ring in a type":   vec(ring[0]),
		"shared in itself":   shared,
	}
}

// places are what a term may stand in.
func places(x api.Term) map[string]api.Term {
	return map[string]api.Term{
		"alone":         x,
		"in a Pi":       pi(x, nat),
		"behind a Pi":   pi(nat, x),
		"of a Fam":      vec(x),
		"of no Fam":     fam(99, zero, x),
		"of a constant": vec(con(99, x)),
		"of a meta":     vec(hole(0, x)),
		"in a Lam":      lam(x),
	}
}

func TestMetasThatMayNotBe(t *testing.T) {
	for name, x := range odd() {
		for at, y := range places(x) {
			name := name + ", " + at
			l := some(unknown(y), unknown(nat, y), unknown(nat, nat, y, tm), unknown(fam(99), tm, y), param(y), param(nat, y), unknown(y, y))
			for _, m := range l {
				holdDecls(t, name, system(), some(m), place{0, api.ErrArg})
				holdDecls(t, name+", behind others", system(), append(known(), m), place{6, api.ErrArg})
				holdDecls(t, name+", ahead of a wrong one", system(), some(m, unknown(fam(99))), place{0, api.ErrArg})
				holdDecls(t, name+", behind a wrong one", system(), some(unknown(fam(99)), m), place{0, api.ErrScope})
			}
			// What is wrong with the signature is check's to tell, as soon as it is asked.
			sig := append(system(), types(y)...)
			holdDecls(t, name+", a declaration", sig, known(), place{0, api.ErrArg})
			holdDecls(t, name+", a declaration, and a wrong one", sig, some(unknown(fam(99))), place{0, api.ErrArg})
			holdDecls(t, name+", a declaration, of none", sig, nil, right)
		}
	}
}

func TestTermsThatMayNotBe(t *testing.T) {
	natural, fits := some(unknown(nat)), put(some(unknown(nat), unknown(nat, nat), unknown(vec(hole(0)))), zero, vari(0), none)
	for name, x := range odd() {
		for at, y := range places(x) {
			name := name + ", " + at
			holdSub(t, name, put(natural, y), api.ErrArg)
			for i := range fits.theta {
				z := fits
				z.theta = slices.Clone(fits.theta)
				z.theta[i] = y
				holdSub(t, fmt.Sprint(name, ", at ", i), z, api.ErrArg)
				z.delta = append(slices.Clone(fits.delta), unknown(fam(99)))
				z.theta = append(z.theta, zero)
				holdSub(t, fmt.Sprint(name, ", at ", i, ", and a later one"), z, api.ErrArg)
			}
			holdSub(t, name+", behind a wrong one", put(some(unknown(nat), unknown(nat)), none, y), api.ErrType)
			holdSub(t, name+", of a meta that there is not", put(some(unknown(vec(hole(9)))), y), api.ErrScope)
			holdSub(t, name+", one too many", put(natural, zero, y), api.ErrType)
			for _, m := range some(unknown(y), unknown(nat, y), unknown(nat, nat, y, tm), param(y), unknown(y, y)) {
				holdSub(t, name+", in a meta", put(some(m), zero), api.ErrArg)
				holdSub(t, name+", in a meta behind others", put(append(slices.Clone(fits.delta), m), zero, vari(0), none, zero), api.ErrArg)
				holdSub(t, name+", in a meta, of a wrong term", put(some(m), con(99)), api.ErrArg)
				holdSub(t, name+", in a meta, and no term", put(some(m)), api.ErrType)
				holdSub(t, name+", in one of those over all", fits.with(unknown(nat), m), api.ErrArg)
				holdSub(t, name+", in one of those over all, of none", put(nil).with(m), api.OK)
			}
			holdSub(t, name+", around", fits.behind(nat, y, tm), api.ErrArg)
			holdSub(t, name+", around none", put(nil).behind(y), api.OK)
			z := fits
			z.sig = append(system(), types(y)...)
			holdSub(t, name+", a declaration", z, api.ErrArg)
			z.delta, z.theta = nil, nil
			holdSub(t, name+", a declaration, of none", z, api.OK)
		}
	}
}

// What may be just so may be: 4000 nodes, 60 deep.
func TestWhatMayJustBe(t *testing.T) {
	deepRow := vec(numeral(api.MaxDepth - 2))
	holdDecls(t, "60 deep", system(), some(unknown(deepRow, deepRow), param(deepRow)), right)
	holdDecls(t, "61 deep", system(), some(unknown(nat), unknown(vec(numeral(api.MaxDepth-1)))), place{1, api.ErrArg})
	holdDecls(t, "an entry 61 deep", system(), some(unknown(nat), unknown(nat, vec(numeral(api.MaxDepth-1)))), place{1, api.ErrArg})
	many := fam(natF, times(api.MaxSize-1, zero)...)
	holdDecls(t, "4000 nodes", system(), some(unknown(many)), place{0, api.ErrType})
	holdDecls(t, "an entry of 4000 nodes", system(), some(unknown(fam(99), many)), place{0, api.ErrType})
	holdSub(t, "60 deep", put(some(unknown(nat)), numeral(api.MaxDepth-1)), api.OK)
	holdSub(t, "61 deep", put(some(unknown(nat)), numeral(api.MaxDepth)), api.ErrArg)
	holdSub(t, "of a type 60 deep", put(some(unknown(deepRow, deepRow)), vari(0)), api.OK)
	holdSub(t, "4000 nodes", put(some(unknown(nat)), con(zeroC, times(api.MaxSize-1, zero)...)), api.ErrType)
	holdSub(t, "4001 nodes", put(some(unknown(nat)), con(zeroC, times(api.MaxSize, zero)...)), api.ErrArg)
}

// Lists as long as they like, of right and of wrong things.
func TestLongLists(t *testing.T) {
	for _, x := range list(nat, zero, fam(99), node(-1, 0), vec(vari(0))) {
		long := times(200000, x)
		metaDecls := slices.Repeat(some(unknown(x)), 100000)
		holdDecls(t, "long", system(), metaDecls, place{0, api.ErrLimit})
		holdDecls(t, "a long context", system(), some(unknown(nat, long...)), place{0, api.ErrLimit})
		holdSub(t, "long", put(metaDecls, long[:100000]...), api.ErrLimit)
		holdSub(t, "long terms", put(known(), long...), api.ErrType)
		holdSub(t, "a long context", put(some(unknown(nat, long[:2000]...)), zero), api.ErrArg)
		holdSub(t, "long around", put(some(unknown(nat)), zero).behind(long...), api.ErrArg)
		holdSub(t, "long around none", put(nil).behind(long...), api.OK)
		if sizes, params := metas.Sizes(metaDecls), metas.Params(metaDecls); len(sizes) != 100000 || len(params) != 100000 {
			t.Errorf("%d, %d", len(sizes), len(params))
		}
	}
	l := slices.Repeat(some(unknown(nat)), 100000)
	holdSub(t, "over long metas", put(some(unknown(nat)), hole(99999)).with(l...), api.OK)
	holdSub(t, "over long metas, none of them", put(some(unknown(nat)), hole(100000)).with(l...), api.ErrScope)
	holdDecls(t, "a long signature", types(times(10000, sort)...), some(unknown(fam(9999))), right)
}

// Sizes and Params look at no term: what may not be has a size as well.
func TestSizesOfWhatMayNotBe(t *testing.T) {
	var l []api.MetaDecl
	for _, x := range odd() {
		l = append(l, unknown(x), param(x, x), unknown(x, x, x))
	}
	sizes, params := metas.Sizes(l), metas.Params(l)
	for i := range l {
		if sizes[i] != i%3 || params[i] != (i%3 == 1) {
			t.Errorf("%d: %d, %v", i, sizes[i], params[i])
		}
	}
}

// Nil, and noughts, wherever something is asked for.
func TestNilAndNoughts(t *testing.T) {
	noughts := make([]api.MetaDecl, 3)
	holdDecls(t, "noughts", system(), noughts, place{0, api.ErrArg})
	holdDecls(t, "noughts over nil", nil, noughts, place{0, api.ErrArg})
	holdDecls(t, "over noughts", make([]api.Decl, 3), some(unknown(fam(2)), param(fam(1))), right)
	holdDecls(t, "over noughts, of none of them", make([]api.Decl, 3), some(unknown(fam(3))), place{0, api.ErrScope})
	holdSub(t, "noughts", put(noughts, make([]api.Term, 3)...), api.ErrType)
	holdSub(t, "noughts for one", put(some(unknown(nat)), api.Term{}), api.ErrType)
	holdSub(t, "one for noughts", put(noughts[:1], zero), api.ErrType)
	holdSub(t, "over nil", terms{delta: some(unknown(nat)), theta: list(zero)}, api.ErrScope)
	holdSub(t, "over nil, what may not be", terms{delta: some(unknown(nat)), theta: list(con(-1))}, api.ErrArg)
	holdSub(t, "over nil, a variable", terms{delta: some(unknown(nat, nat)), theta: list(vari(0))}, api.OK)
	holdSub(t, "over nil, a variable around", terms{ext: list(nat), delta: some(param(nat)), theta: list(vari(0))}, api.OK)
	holdSub(t, "over noughts", put(some(unknown(nat)), hole(0)).with(noughts...), api.ErrType)
	holdSub(t, "behind noughts", put(some(unknown(nat)), vari(0)).behind(make([]api.Term, 3)...), api.ErrType)
	holdSub(t, "behind noughts, of none of them", put(some(unknown(nat)), zero).behind(make([]api.Term, 3)...), api.OK)
}

// Great metas, and great terms for them, come to an end.
func TestGreatMetas(t *testing.T) {
	t.Parallel()
	sig := append(system(), types(pis(append(times(57, nat), sort)...))...)
	// A type of so many rows, each of 57 numbers.
	rows := func(n int, number api.Term) api.Term {
		return pis(times(n, fam(declared, times(57, number)...))...)
	}
	great := rows(20, zero)
	few := slices.Repeat(some(unknown(rows(1, zero), times(40, great)...)), 4)
	holdDecls(t, "great", sig, few, right)
	few[3].T = great
	holdDecls(t, "great, the last one wrong", sig, few, place{3, api.ErrArg})
	many := slices.Repeat(some(unknown(rows(1, zero), great, great, great)), 40)
	holdDecls(t, "great, and many", sig, many, right)
	// Filled, the entries are as great: each number is a meta's.
	delta := append(some(unknown(nat)), slices.Repeat(some(unknown(nat, times(40, rows(10, hole(0)))...)), 9)...)
	x := terms{sig: sig, metas: few, ext: times(500, great), delta: delta, theta: times(10, numeral(4))}
	holdDecls(t, "great, of a meta", sig, delta[:5], right)
	holdSub(t, "great, filled", x, api.OK)
	x.theta = append(times(9, numeral(4)), none)
	holdSub(t, "great, filled, the last one wrong", x, api.ErrType)
	x.theta = times(10, numeral(50))
	holdSub(t, "too great, filled", x, api.ErrLimit)
}

// Metas in metas make what is filled ever greater: it comes to an end all the same, whatever Args they have.
func TestMetasThatGrow(t *testing.T) {
	t.Parallel()
	var delta []api.MetaDecl
	var theta []api.Term
	grown := vari(0)
	for i := range 40 {
		delta = append(delta, unknown(tm, tm))
		theta = append(theta, con(appC, vari(0), vari(0)))
		grown = hole(i, grown)
	}
	holdSub(t, "twice so great each", put(delta, theta...), api.OK)
	delta[39].T = fam(tmF, grown.Args[0])
	holdSub(t, "twice so great each, in a type", put(delta, theta...), api.ErrLimit)
	// What applies itself to itself has no type, and would go on for ever: but the work that a meta may make has an end.
	self := lam(vari(0, vari(0)))
	for _, ctx := range [][]api.Term{nil, list(nat)} {
		omega := some(unknown(tm, pi(tm, tm), tm), unknown(vec(hole(0, self, self)), ctx...))
		holdSub(t, "itself, of itself", put(omega, vari(1, vari(0)), none), api.ErrLimit)
	}
}
