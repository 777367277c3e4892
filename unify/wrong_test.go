package unify_test

import (
	"math"
	"slices"
	"testing"

	"amanuensis/api"
)

// P8.1: ErrArg

// odd are terms that may not be.
func odd() map[string]api.Term {
	ring := list(con(0))
	ring[0].Args = ring
	return map[string]api.Term{
		"kind below 0":      node(-1, 0),
		"kind Kinds":        node(api.Kinds, 0),
		"kind below":        con(0, con(0), node(9, 0)),
		"Sort with a head":  node(api.Sort, 1),
		"Sort of one":       node(api.Sort, 0, sort),
		"Pi with a head":    node(api.Pi, 1, sort, sort),
		"Pi of none":        node(api.Pi, 0),
		"Pi of one":         node(api.Pi, 0, sort),
		"Pi of three":       node(api.Pi, 0, sort, sort, sort),
		"Lam with a head":   node(api.Lam, 1, sort),
		"Lam of none":       node(api.Lam, 0),
		"Lam of two":        node(api.Lam, 0, con(0), con(1)),
		"Var below 0":       vari(-1),
		"Var below 0, deep": con(0, con(0), lam(vari(-1))),
		"least Var":         vari(math.MinInt),
		"Const below 0":     con(-1),
		"Fam below 0":       fam(-1),
		"Meta below 0":      hole(-1),
		"Meta below 0 deep": lam(con(0, hole(0, hole(-1)))),
		"least Meta":        hole(math.MinInt),
		"4001 nodes":        wide(api.MaxSize + 1),
		"61 deep":           lams(api.MaxDepth, con(1)),
		"a ring":            ring[0],
	}
}

func TestTermsThatMayNotBe(t *testing.T) {
	one := sizes(0)
	for name, x := range odd() {
		for at, a := range map[string]ask{
			"alone":                {x, con(1), 0, one},
			"as both":              {x, x, 0, one},
			"with a meta":          {x, hole(0), 0, one},
			"as an Arg":            {con(0, x), con(0, con(1)), 0, one},
			"as an Arg of a meta":  {hole(0, x), con(1), 0, one},
			"as both metas' Arg":   {hole(0, x), hole(0, x), 0, one},
			"behind a clash":       {con(0, con(1), x), con(0, con(2), con(1)), 0, one},
			"with another Kind":    {con(0, x), lam(con(1)), 0, one},
			"with no such meta":    {con(0, con(1), x), con(0, hole(5), con(1)), 0, one},
			"with no pattern":      {con(0, con(1), x), con(0, hole(0, con(1)), con(1)), 0, sizes(1)},
			"with all else":        {x, con(2), -1, slices.Repeat(sizes(-1), mostMetas+1)},
			"behind what is great": {con(0, wide(3990), x), con(0, wide(3990)), 0, one},
		} {
			holdBoth(t, name+", "+at, a, api.ErrArg)
		}
	}
}

// What may be just so may be: 4000 nodes, 60 deep, all at once.
func TestTermsThatMayJustBe(t *testing.T) {
	deep := lams(api.MaxDepth-1, vari(0))
	hold(t, "4000 nodes", ask{wide(4000), wide(4000), 0, sizes(0)}, non)
	hold(t, "4000 nodes of a meta", ask{hole(0), wide(4000), 0, sizes(0)}, is(wide(4000)))
	hold(t, "60 deep", ask{deep, deep, 0, sizes(0)}, non)
	hold(t, "60 deep of a meta", ask{deep, hole(0), 0, sizes(0)}, is(deep))
	fail(t, "4000 nodes, another one", ask{wide(4000), con(0, append(times(3998, con(1)), con(2))...), 0, nil}, api.ErrClash)
}

// asks are what is answered with OK, or with another error, where n and the sizes are in order.
func asks(n int, size []int) map[string]ask {
	return map[string]ask{
		"the same":      {con(1), con(1), n, size},
		"a clash":       {con(1), con(2), n, size},
		"a meta":        {hole(0), con(1), n, size},
		"no such meta":  {hole(9999), con(1), n, size},
		"no pattern":    {hole(0, con(1)), con(1), n, size},
		"a Lam":         {lam(vari(0)), lam(vari(0)), n, size},
		"what is great": {wide(4000), wide(4000), n, size},
	}
}

func TestN(t *testing.T) {
	for _, n := range []int{-1, -2, math.MinInt, 1001, 1002, 1 << 20, math.MaxInt} {
		for name, a := range asks(n, sizes(0)) {
			fail(t, name, a, api.ErrArg)
		}
		fail(t, "no metas", ask{con(1), con(1), n, nil}, api.ErrArg)
	}
	for _, n := range []int{0, 1, 999, mostEntries} {
		hold(t, "the same", ask{con(1), con(1), n, nil})
		hold(t, "a meta", ask{hole(0), con(1), n, sizes(0)}, is(con(1)))
		fail(t, "a clash", ask{con(1), con(2), n, nil}, api.ErrClash)
	}
}

func TestSizes(t *testing.T) {
	for _, size := range []int{-1, -2, math.MinInt, 1001, 1002, 1 << 20, math.MaxInt} {
		for at, l := range map[string][]int{"alone": sizes(size), "the first one": sizes(size, 0), "the last one": sizes(0, 0, size), "all": sizes(size, size), "beside a good one of most": sizes(1000, size)} {
			for name, a := range asks(0, l) {
				fail(t, at+", "+name, a, api.ErrArg)
			}
		}
	}
	for _, size := range []int{0, 1, 999, mostEntries} {
		hold(t, "the same", ask{con(1), con(1), 0, sizes(size)}, non)
		hold(t, "of as many entries", ask{hole(1, upTo(size)...), con(1), size, sizes(0, size)}, non, is(con(1)))
		hold(t, "all", ask{con(1), con(1), 0, sizes(size, size, size)}, non, non, non)
	}
}

func TestHowManyMetasThereAre(t *testing.T) {
	for _, n := range []int{0, 1, 199, mostMetas} {
		hold(t, "the same", ask{con(1), con(1), 0, make([]int, n)}, make([]api.Bind, n)...)
		fail(t, "a clash", ask{con(1), con(2), 0, make([]int, n)}, api.ErrClash)
	}
	for _, n := range []int{201, 202, 5000} {
		for name, a := range asks(0, make([]int, n)) {
			fail(t, name, a, api.ErrArg)
		}
	}
}

func TestSeveralWrongArguments(t *testing.T) {
	bad, many := vari(-1), make([]int, mostMetas+1)
	for name, a := range map[string]ask{
		"a and c":                     {bad, bad, 0, nil},
		"a and n":                     {bad, con(1), -1, nil},
		"c and n":                     {con(1), bad, 1001, nil},
		"a and a size":                {bad, con(1), 0, sizes(-1)},
		"c and a size":                {con(1), bad, 0, sizes(1001)},
		"a and how many":              {bad, con(1), 0, many},
		"n and a size":                {con(1), con(1), -1, sizes(-1)},
		"n and how many":              {con(1), con(1), 1001, many},
		"a size and how many":         {con(1), con(1), 0, append(many, -1)},
		"two sizes":                   {con(1), con(1), 0, sizes(-1, 1001)},
		"n and a clash":               {con(1), con(2), -1, nil},
		"a size and a clash":          {con(1), con(2), 0, sizes(1001)},
		"how many and a clash":        {con(1), con(2), 0, many},
		"a and a clash":               {bad, con(2), 0, nil},
		"n and no such meta":          {hole(3), con(2), 1001, nil},
		"a size and no such meta":     {hole(3), con(2), 0, sizes(-1)},
		"a size that is not asked":    {hole(0), con(2), 0, sizes(0, -1)},
		"a size and what is in there": {hole(0), con(1, hole(0)), 0, sizes(-1)},
		"all":                         {bad, bad, -1, append(many, -1)},
	} {
		fail(t, name, a, api.ErrArg)
	}
}
