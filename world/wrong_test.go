package world_test

import (
	"math"
	"slices"
	"testing"

	"amanuensis/api"
	"amanuensis/world"
)

// R1: wrong arguments

// deepest is as deep as a term may be nested.
const deepest = 1 << 16

// deep is a term below so many Lams, Pis or Fams.
func deep(n int, around func(t api.Term) api.Term) api.Term {
	t := nat
	for range n {
		t = around(t)
	}
	return t
}

// odd are terms that may not be.
func odd() map[string]api.Term {
	ring := list(con(0))
	ring[0].Args = ring
	shared := zero
	for range 200 {
		shared = con(appC, shared, shared)
	}
	return map[string]api.Term{
		"kind below 0":       node(-1, 0),
		"least kind":         node(math.MinInt, 0),
		"kind Kinds":         node(api.Kinds, 0),
		"greatest kind":      node(math.MaxInt, 0),
		"kind in a type":     vec(node(-1, 0)),
		"Sort with a head":   node(api.Sort, 1),
		"Sort of one":        node(api.Sort, 0, nat),
		"Pi with a head":     node(api.Pi, 1, nat, nat),
		"Pi of none":         node(api.Pi, 0),
		"Pi of one":          node(api.Pi, 0, nat),
		"Pi of three":        node(api.Pi, 0, nat, nat, nat),
		"Lam with a head":    node(api.Lam, -1, vari(0)),
		"Lam of none":        node(api.Lam, 0),
		"Lam of two":         node(api.Lam, 0, zero, zero),
		"Var below 0":        vari(-1),
		"least Var":          vari(math.MinInt),
		"Var below 0, below": vec(lam(succ(vari(-1)))),
		"Const below 0":      con(-1),
		"Fam below 0":        fam(-1),
		"least Fam":          fam(math.MinInt),
		"Meta below 0":       vec(hole(-1)),
		"4001 nodes":         fam(vecF, times(api.MaxSize, zero)...),
		"many nodes":         fam(natF, times(100000, zero)...),
		"61 deep":            deep(api.MaxDepth, vec),
		"61 Pis":             pis(append(times(api.MaxDepth, nat), nat)...),
		"61 Pis to a Sort":   pis(append(times(api.MaxDepth, nat), sort)...),
		"deep in Lams":       deep(deepest, lam),
		"deep in Fams":       deep(deepest, vec),
		"deep in Pis":        deep(deepest, func(t api.Term) api.Term { return pi(nat, t) }),
		"deep ahead of Pis":  deep(deepest, func(t api.Term) api.Term { return pi(t, sort) }),
		"a ring":             vec(ring[0]),
		"shared in itself":   vec(shared),
	}
}

// places are what a term may stand in.
func places(x api.Term) map[string]api.Term {
	return map[string]api.Term{
		"alone":         x,
		"in a Pi":       pi(x, nat),
		"in a kind":     pi(x, sort),
		"behind a Pi":   pi(nat, x),
		"of a Fam":      vec(x),
		"of no Fam":     fam(99, zero, x),
		"of a constant": vec(con(99, x)),
		"in a wrong Pi": pis(fam(99), zero, x),
	}
}

func TestDeclarationsThatMayNotBe(t *testing.T) {
	for name, x := range odd() {
		for at, y := range places(x) {
			name := name + ", " + at
			holdSig(t, name+", alone", types(y), place{0, api.ErrArg})
			for _, i := range []int{0, 5, declared} {
				sig := slices.Insert(system(), i, types(y)...)
				holdSig(t, name, sig, place{i, api.ErrArg})
				// Where something ahead is wrong it is not come to.
				holdSig(t, name+", behind a wrong one", append(types(zero), sig...), place{0, api.ErrType})
				holdCtx(t, name+", around nothing", behind{sig: sig}, api.OK)
				holdCtx(t, name, behind{sig: sig, ctx: list(nat)}, api.ErrArg)
				holdCtx(t, name, behind{sig: sig, ctx: list(fam(99))}, api.ErrArg)
				holdSchema(t, name, sig, list(nat), api.ErrArg)
				holdSchema(t, name, sig, list(fam(99)), api.ErrArg)
			}
		}
	}
}

func TestEntriesThatMayNotBe(t *testing.T) {
	for name, x := range odd() {
		for at, y := range places(x) {
			name := name + ", " + at
			holdCtx(t, name, in(y), api.ErrArg)
			holdCtx(t, name+", behind another one", in(nat, y), api.ErrArg)
			holdCtx(t, name+", ahead of a wrong one", in(nat, y, zero), api.ErrArg)
			holdCtx(t, name+", behind a wrong one", in(nat, fam(99), y), api.ErrScope)
			holdCtx(t, name+", around", in(nat).near(nat, y, tm), api.ErrArg)
			holdCtx(t, name+", around a wrong one", in(fam(99)).near(y), api.ErrArg)
			holdCtx(t, name+", around nothing", in().near(y), api.OK)
			for _, m := range []api.MetaDecl{unknown(y), unknown(nat, y), unknown(nat, nat, y, tm), {T: y, Param: true}} {
				holdCtx(t, name+", in a meta", in(nat).with(m), api.ErrArg)
				holdCtx(t, name+", in a meta behind another one", in(zero).with(unknown(nat), m), api.ErrArg)
				holdCtx(t, name+", in a meta, of nothing", in().with(m), api.OK)
			}
			holdSchema(t, name, system(), list(y), api.ErrArg)
			holdSchema(t, name+", behind another one", system(), list(nat, y), api.ErrArg)
			holdSchema(t, name+", ahead of a wrong one", system(), list(nat, y, fam(99)), api.ErrArg)
			holdSchema(t, name+", behind a wrong one", system(), list(nat, fam(99), y), api.ErrScope)
		}
	}
}

// What may not be conforms to the same, and to nothing else.
func TestConformingWhatMayNotBe(t *testing.T) {
	l := odd()
	// What is in itself has no end, and what has itself twice so often none that is come to: they are no terms to go through.
	delete(l, "a ring")
	delete(l, "shared in itself")
	for name, x := range l {
		holdConforms(t, name, list(x), list(x), true)
		holdConforms(t, name+", another time", list(nat, x), list(copied(x), nat), true)
		holdConforms(t, name+", to a right one", list(nat, vec(zero)), list(x), false)
		holdConforms(t, name+", a right one", list(x), list(nat), false)
		for other, y := range l {
			holdConforms(t, name+", of: "+other, list(y), list(x), name == other)
		}
	}
}

// numeral is a number of so many more.
func numeral(n int) api.Term {
	t := zero
	for range n {
		t = succ(t)
	}
	return t
}

// What may be just so may be: 4000 nodes, 60 deep.
func TestWhatMayJustBe(t *testing.T) {
	holdSig(t, "61 deep", append(system(), types(vec(numeral(api.MaxDepth-1)))...), place{declared, api.ErrArg})
	deepPi := pis(append(times(api.MaxDepth-1, nat), nat)...)
	deepKind := pis(append(times(api.MaxDepth-1, nat), sort)...)
	deepRow := vec(numeral(api.MaxDepth - 2))
	many := fam(natF, times(api.MaxSize-1, zero)...)
	holdSig(t, "60 deep", append(system(), types(deepPi, deepKind, deepRow, nat)...), right)
	holdSig(t, "4000 nodes", append(system(), types(deepPi, many)...), place{declared + 1, api.ErrType})
	holdCtx(t, "60 deep", in(deepPi, deepRow, nat), api.OK)
	holdCtx(t, "60 deep, a kind", in(deepPi, deepKind, nat), api.ErrType)
	holdCtx(t, "4000 nodes", in(deepPi, many), api.ErrType)
	holdSchema(t, "60 deep", system(), list(deepRow, nat), api.OK)
	holdSchema(t, "4000 nodes", system(), list(nat, many), api.ErrType)
}

// Lists as long as they like, of right and of wrong things.
func TestLongLists(t *testing.T) {
	for _, x := range list(nat, zero, fam(99), node(-1, 0), vec(vari(0))) {
		long := times(300000, x)
		holdSig(t, "long", types(long[:1000]...), place{0, api.ErrLimit})
		holdCtx(t, "long", in(long...), api.ErrLimit)
		holdCtx(t, "long around", in(nat).near(long...), api.ErrArg)
		holdCtx(t, "long around nothing", in().near(long...), api.OK)
		holdSchema(t, "long", system(), long, api.ErrLimit)
		holdConforms(t, "long", list(x), long, true)
		holdConforms(t, "long, of another one", list(sort), long, false)
		holdConforms(t, "to long", long, list(x, x), true)
		holdConforms(t, "another one to long", long, list(x, sort), false)
		if e := world.Ctx(system(), slices.Repeat([]api.MetaDecl{unknown(nat)}, 100000), nil, list(vec(hole(99999)))); e != api.OK {
			t.Errorf("long metas: %v", e)
		}
	}
	holdCtx(t, "a long signature", behind{sig: types(times(10000, sort)...), ctx: list(fam(9999))}, api.OK)
}

// Great contexts of great terms come to an end.
func TestGreatWorlds(t *testing.T) {
	t.Parallel()
	// A Pi of 51 rows, each of 57 numbers: some 3000 nodes.
	sig := append(system(), types(pis(append(times(57, nat), sort)...))...)
	row := fam(declared, times(57, zero)...)
	great := pis(times(51, row)...)
	holdSig(t, "great", append(sig, types(times(40-len(sig), great)...)...), right)
	holdCtx(t, "great", behind{sig: sig, around: times(300, great), ctx: times(40, great)}, api.OK)
	holdCtx(t, "great, the last one wrong", behind{sig: sig, around: times(100, great), ctx: append(times(39, great), great.Args[0].Args[0])}, api.ErrType)
	holdSchema(t, "great", sig, times(40, row), api.OK)
	holdConforms(t, "great", times(200, great), append(times(200, great), row), false)
}
