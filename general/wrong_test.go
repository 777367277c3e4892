package general_test

import (
	"fmt"
	"math"
	"slices"
	"testing"

	"amanuensis/api"
	"amanuensis/general"
)

// R1: wrong arguments

// deepest is as deep as a term may be nested.
const deepest = 1 << 16

// deep is a term below so many others.
func deep(n int, around func(t api.Term) api.Term) api.Term {
	t := nat
	for range n {
		t = around(t)
	}
	return t
}

func of(t api.Term) api.Term { return fam(9, t) }

// odd are terms that may not be.
func odd() map[string]api.Term {
	ring := list(con(0))
	ring[0].Args = ring
	pis := list(nat, pi(nat, nat))
	pis[1].Args = pis
	shared := con(1)
	for range 200 {
		shared = con(8, shared, shared)
	}
	return map[string]api.Term{
		"kind below 0":       node(-1, 0),
		"least kind":         node(math.MinInt, 0),
		"kind Kinds":         node(api.Kinds, 0),
		"greatest kind":      node(math.MaxInt, 0),
		"kind in a type":     of(node(-1, 0)),
		"Sort with a head":   node(api.Sort, 1),
		"Sort of one":        node(api.Sort, 0, nat),
		"Pi with a head":     node(api.Pi, 1, nat, nat),
		"Pi below 0":         node(api.Pi, -1, nat, nat),
		"Pi of none":         node(api.Pi, 0),
		"Pi of one":          node(api.Pi, 0, nat),
		"Pi of three":        node(api.Pi, 0, nat, nat, nat),
		"Lam with a head":    node(api.Lam, -1, vari(0)),
		"Lam of none":        node(api.Lam, 0),
		"Lam of two":         node(api.Lam, 0, con(0), con(0)),
		"Var below 0":        vari(-1),
		"least Var":          vari(math.MinInt),
		"Var below 0, below": of(lam(con(2, vari(-1)))),
		"Const below 0":      con(-1),
		"Fam below 0":        fam(-1),
		"least Fam":          fam(math.MinInt),
		"Meta below 0":       hole(-1),
		"Meta below 0, of 1": of(hole(-1, con(0))),
		"4001 nodes":         fam(9, times(api.MaxSize, con(0))...),
		"many nodes":         fam(9, times(100000, con(0))...),
		"61 deep":            deep(api.MaxDepth, of),
		"61 deep in metas":   deep(api.MaxDepth, func(t api.Term) api.Term { return hole(0, t) }),
		"61 Pis":             asking(times(api.MaxDepth, nat), nat),
		"deep in Lams":       deep(deepest, lam),
		"deep in Fams":       deep(deepest, of),
		"deep in metas":      deep(deepest, func(t api.Term) api.Term { return hole(0, t) }),
		"deep in Pis":        deep(deepest, func(t api.Term) api.Term { return pi(nat, t) }),
		"deep ahead of Pis":  deep(deepest, func(t api.Term) api.Term { return pi(t, nat) }),
		"a ring":             ring[0],
		"a ring in a type":   of(ring[0]),
		"a ring of Pis":      pis[1],
		"shared in itself":   shared,
	}
}

// places are what a term may stand in.
func places(x api.Term) map[string]api.Term {
	return map[string]api.Term{
		"alone":         x,
		"asked for":     pi(x, nat),
		"come to":       pi(nat, x),
		"asked for 2nd": pis(nat, x, nat),
		"of a Fam":      of(x),
		"of a constant": of(con(99, x)),
		"of a meta":     pi(nat, of(hole(0, x))),
		"in a Lam":      of(lam(x)),
	}
}

func TestWhatMayNotBe(t *testing.T) {
	for name, x := range odd() {
		for at, y := range places(x) {
			name := name + ", " + at
			hold(t, name, nil, y, 0, wrong(api.ErrArg))
			hold(t, name+", in a context", list(nat, tm), y, 0, wrong(api.ErrArg))
			hold(t, name+", in a context that is outside", list(pi(nat, nat)), y, 0, wrong(api.ErrArg))
			hold(t, name+", no below 0", nil, y, -1, wrong(api.ErrArg))
			for n := range 5 {
				ctx := times(4, nat)
				ctx = slices.Insert(ctx, n, y)
				hold(t, fmt.Sprint(name, ", entry ", n), ctx, nat, 0, wrong(api.ErrArg))
				hold(t, fmt.Sprint(name, ", entry ", n, " of a type that is outside"), ctx, sort, 0, wrong(api.ErrArg))
			}
			hold(t, name+", both", list(y), y, 0, wrong(api.ErrArg))
			hold(t, name+", the last one of 40", append(times(39, nat), y), nat, 0, wrong(api.ErrArg))
			hold(t, name+", the last one of 41", append(times(40, nat), y), nat, 0, wrong(api.ErrArg))
		}
	}
}

// What may just so be may be: 4000 nodes, 60 deep.
func TestWhatMayJustBe(t *testing.T) {
	many, deepFam := fam(9, times(api.MaxSize-1, con(0))...), deep(api.MaxDepth-1, of)
	for _, x := range list(many, deepFam) {
		hold(t, "a type", nil, x, 1, unknown(nil, x, hole(1)))
		hold(t, "an entry", list(x), nat, 1, unknown(list(x), nat, hole(1, vari(0))))
		hold(t, "40 entries", times(40, x), x, 1, unknown(times(40, x), x, hole(1, down(40)...)))
	}
	// A Pi, and what it asks for, is a node each; below it there is one node less.
	many.Args = many.Args[2:]
	hold(t, "4000 nodes, asked for", nil, pi(many, nat), 1, unknown(list(many), nat, lam(hole(1, vari(0)))))
	hold(t, "4000 nodes, come to", nil, pi(nat, many), 1, unknown(list(nat), many, lam(hole(1, vari(0)))))
	hold(t, "4001 nodes, asked for", nil, pi(fam(9, times(api.MaxSize-2, con(0))...), nat), 1, wrong(api.ErrArg))
	hold(t, "4001 nodes, come to", nil, pi(nat, fam(9, times(api.MaxSize-2, con(0))...)), 1, wrong(api.ErrArg))
	almost := deepFam.Args[0]
	hold(t, "60 deep, asked for", nil, pi(almost, nat), 1, unknown(list(almost), nat, lam(hole(1, vari(0)))))
	hold(t, "60 deep, come to", nil, pi(nat, almost), 1, unknown(list(nat), almost, lam(hole(1, vari(0)))))
	hold(t, "61 deep, asked for", nil, pi(deepFam, nat), 1, wrong(api.ErrArg))
	hold(t, "61 deep, come to", nil, pi(nat, deepFam), 1, wrong(api.ErrArg))
	last := deep(api.MaxDepth-1-40, of)
	hold(t, "60 deep, behind 40", nil, asking(times(40, nat), last), 1, unknown(times(40, nat), last, lams(40, hole(1, down(40)...))))
	hold(t, "61 deep, behind 40", nil, asking(times(40, nat), of(last)), 1, wrong(api.ErrArg))
	for n := 41; n < 70; n++ {
		hold(t, "more Pis", nil, asking(times(n, nat), nat), 1, wrong(api.ErrArg))
	}
}

// Contexts as long as they like, of right and of wrong things.
func TestLongContexts(t *testing.T) {
	for _, x := range list(nat, sort, pi(nat, nat), node(-1, 0), api.Term{}, of(vari(0)), deep(58, of)) {
		long := times(1000000, x)
		for _, n := range []int{41, 42, 199, 200, 201, 1000, 1001, 1000000} {
			hold(t, "long", long[:n], nat, 0, wrong(api.ErrArg))
			hold(t, "long, and more asked for", long[:n], pis(nat, sort, tm), 0, wrong(api.ErrArg))
		}
	}
}

func TestNilAndNoughts(t *testing.T) {
	hold(t, "noughts", nil, api.Term{}, 0, wrong(api.ErrOutside))
	hold(t, "a context of noughts", make([]api.Term, 3), nat, 0, wrong(api.ErrOutside))
	hold(t, "a context of 40 noughts", make([]api.Term, 40), nat, 0, wrong(api.ErrOutside))
	hold(t, "a context of 41 noughts", make([]api.Term, 41), nat, 0, wrong(api.ErrArg))
	hold(t, "Args of nothing", list(node(api.Fam, 0, list()...)), node(api.Fam, 1, list()...), 0, unknown(list(nat), fam(1), hole(0, vari(0))))
}

// R4 by the letter: with an error all else is noughts, and lists of these have nothing, and no room either.
func TestNoughtsBesideErrors(t *testing.T) {
	for _, a := range list(nat, pi(nat, nat), sort, pi(sort, nat), pis(nat, nat, con(0)), node(-1, 0), pi(nat, node(-1, 0))) {
		for _, ctx := range [][]api.Term{nil, list(nat), list(nat, sort), list(node(-1, 0)), times(40, nat), times(41, nat)} {
			for _, no := range []int{-1, 0, 3} {
				d, x, e := general.General(ctx, a, no)
				if e != api.OK && (len(d.Ctx)+cap(d.Ctx)+len(x.Args)+cap(x.Args)+len(d.T.Args)+cap(d.T.Args) > 0 || d.Param || x.Kind != 0 || x.Head != 0 || d.T.Kind != 0 || d.T.Head != 0) {
					t.Errorf("of %s in %s: %s, %s beside %d", short(a), short(ctx), short(d), short(x), e)
				}
			}
		}
	}
}

// R6: a context that is nil, and one that is empty, are the same.
func TestNilIsEmpty(t *testing.T) {
	for _, a := range list(nat, pi(nat, tm), sort, node(-1, 0), asking(times(40, nat), nat), asking(times(41, nat), nat)) {
		d, x, e := general.General(nil, a, 2)
		hold(t, "empty", list(), a, 2, told{d, x, e})
		hold(t, "empty, with room", make([]api.Term, 0, 50), a, 2, told{d, x, e})
	}
}
