package match_test

import (
	"math"
	"slices"
	"testing"

	"amanuensis/api"
	"amanuensis/match"
)

// P7.1: ErrArg

// odd are terms that may not be.
func odd() map[string]api.Term {
	ring := list(con(0))
	ring[0].Args = ring
	return map[string]api.Term{
		"kind below 0":      node(-1, 0),
		"kind Kinds":        node(api.Kinds, 0),
		"kind below":        con(0, con(0), node(9, 0)),
		"Sort with a head":  node(api.Sort, 1),
		"Sort of one":       node(api.Sort, 0, sort),
		"Pi with a head":    node(api.Pi, 1, sort, sort),
		"Pi of none":        node(api.Pi, 0),
		"Pi of one":         node(api.Pi, 0, sort),
		"Pi of three":       node(api.Pi, 0, sort, sort, sort),
		"Lam with a head":   node(api.Lam, 1, sort),
		"Lam of none":       node(api.Lam, 0),
		"Lam of two":        node(api.Lam, 0, con(0), con(1)),
		"Var below 0":       vari(-1),
		"Var below 0, deep": con(0, con(0), lam(vari(-1))),
		"least Var":         vari(math.MinInt),
		"Const below 0":     con(-1),
		"Fam below 0":       fam(-1),
		"Meta below 0":      hole(-1),
		"Meta below 0 deep": lam(con(0, hole(0, hole(-1)))),
		"4001 nodes":        wide(api.MaxSize + 1),
		"61 deep":           lams(api.MaxDepth, con(1)),
		"a ring":            ring[0],
	}
}

func TestTermsThatMayNotBe(t *testing.T) {
	one := binds(non)
	for name, x := range odd() {
		for at, a := range map[string]ask{
			"as p":                          {p: x, t: con(1), b: one},
			"as t":                          {p: con(1), t: x, b: one},
			"as t of a Meta":                {p: hole(0), t: x, b: one},
			"as both":                       {p: x, t: x, b: one},
			"in b":                          {p: con(1), t: con(1), b: binds(is(x))},
			"in b, the last one":            {p: con(1), t: con(1), b: binds(non, is(con(1)), is(x))},
			"in b, the first one":           {p: con(1), t: con(1), b: binds(is(x), non)},
			"in b, of p's Meta":             {p: hole(0), t: con(1), b: binds(is(x))},
			"in b, beside p's Meta":         {p: hole(0), t: con(1), b: binds(non, is(x))},
			"as an Arg of p":                {p: con(0, x), t: con(0, con(1)), b: one},
			"as an Arg of t":                {p: con(0, con(1)), t: con(0, x), b: one},
			"as an Arg of t of a Meta":      {p: con(0, hole(0)), t: con(0, x), b: one},
			"as an Arg of p's Meta":         {p: hole(0, x), t: con(1), b: one},
			"all over":                      {p: x, t: x, b: binds(is(x)), n: -1, params: []bool{true, true}},
			"as p, and a clash":             {p: con(0, con(1), x), t: con(0, con(2), con(1)), b: one},
			"as t, and a clash":             {p: con(0, con(1), con(1)), t: con(0, con(2), x), b: one},
			"in b, and a clash":             {p: con(1), t: con(2), b: binds(is(x))},
			"in b, and a Kind that clashes": {p: sort, t: lam(con(1)), b: binds(non, is(x))},
			"as t, and no such Meta":        {p: con(0, hole(5), con(1)), t: con(0, con(1), x), b: one},
			"as t, and no pattern":          {p: con(0, hole(0, con(1)), con(1)), t: con(0, con(1), x), b: one},
			"in b, and no such Meta":        {p: hole(5), t: con(1), b: binds(is(x))},
			"in b, and no pattern":          {p: hole(0, con(1)), t: con(1), b: binds(non, is(x))},
		} {
			fail(t, name+", "+at, a, api.ErrArg)
		}
	}
}

// What may be just so may be: 4000 nodes, 60 deep, all at once.
func TestTermsThatMayJustBe(t *testing.T) {
	deep := lams(api.MaxDepth-1, vari(0))
	hold(t, "4000 nodes", ask{p: wide(4000), t: wide(4000), b: binds(is(wide(4000)))}, is(wide(4000)))
	hold(t, "60 deep", ask{p: deep, t: deep, b: binds(is(deep))}, is(deep))
	fail(t, "4000 nodes, another one", ask{p: wide(4000), t: con(0, append(times(3998, con(1)), con(2))...)}, api.ErrClash)
	hold(t, "60 deep of a Meta", ask{p: hole(0), t: deep, b: binds(non)}, is(deep))
}

// Of a meta that is nothing yet the term means nothing: it may be anything, is not told, and is not filled in.
func TestTermsOfMetasThatAreNothingYet(t *testing.T) {
	for name, x := range odd() {
		left := api.Bind{T: x}
		hold(t, name, ask{p: con(1), t: con(1), b: binds(left, is(con(2)))}, non, is(con(2)))
		hold(t, name+", of p's Meta", ask{p: hole(0), t: con(1), b: binds(left)}, is(con(1)))
		hold(t, name+", beside one that is filled", ask{p: hole(0), t: con(1), b: binds(is(con(1)), left)}, is(con(1)), non)
		fail(t, name+", in an Arg", ask{p: hole(0, hole(1)), t: con(1), b: binds(is(con(1)), left)}, api.ErrOutside)
	}
}

func TestN(t *testing.T) {
	for _, n := range []int{-1, -2, math.MinInt, 1001, 1002, 1 << 20, math.MaxInt} {
		fail(t, "the same", ask{p: con(1), t: con(1), n: n}, api.ErrArg)
		fail(t, "a Meta", ask{p: hole(0), t: con(1), n: n, b: binds(non)}, api.ErrArg)
		fail(t, "what is something", ask{p: hole(0), t: con(1), n: n, b: binds(is(con(1)))}, api.ErrArg)
		fail(t, "a clash", ask{p: con(1), t: con(2), n: n}, api.ErrArg)
		fail(t, "no such Meta", ask{p: hole(0), t: con(2), n: n}, api.ErrArg)
		fail(t, "no pattern", ask{p: hole(0, con(1)), t: con(2), n: n, b: binds(non)}, api.ErrArg)
	}
	for _, n := range []int{0, 1, 1000} {
		hold(t, "the same", ask{p: con(1), t: con(1), n: n})
		fail(t, "a clash", ask{p: con(1), t: con(2), n: n}, api.ErrClash)
	}
}

func TestHowManyMetasThereAre(t *testing.T) {
	for _, x := range []struct {
		b, params int
		e         api.Errno
	}{
		{0, 0, api.OK}, {1, 1, api.OK}, {199, 199, api.OK}, {200, 200, api.OK},
		{201, 201, api.ErrArg}, {202, 202, api.ErrArg}, {5000, 5000, api.ErrArg},
		{0, 1, api.ErrArg}, {1, 0, api.ErrArg}, {1, 2, api.ErrArg}, {2, 1, api.ErrArg}, {200, 199, api.ErrArg}, {200, 201, api.ErrArg}, {201, 200, api.ErrArg},
	} {
		for name, y := range map[string]struct {
			bind api.Bind
			t    api.Term
			e    api.Errno
		}{"the same": {non, con(1), api.OK}, "the same, all something": {is(con(5)), con(1), api.OK}, "a clash": {non, con(2), api.ErrClash}} {
			b := slices.Repeat(binds(y.bind), x.b)
			got, e := match.Match(con(1), y.t, 0, b, make([]bool, x.params), nil)
			want := x.e
			if want == api.OK {
				want = y.e
			}
			if e != want || e != api.OK && len(got) > 0 || e == api.OK && !slices.EqualFunc(got, b, equalBind) {
				t.Errorf("%s, %d and %d: %v, %v, not %v", name, x.b, x.params, got, e, want)
			}
		}
	}
	// How many rigid has does not matter.
	for _, n := range []int{0, 1, 5, 5000} {
		hold(t, "rigid", ask{p: hole(0), t: con(1), b: binds(non), rigid: make([]bool, n)}, is(con(1)))
	}
}

func TestSeveralWrongArguments(t *testing.T) {
	bad := vari(-1)
	for name, a := range map[string]ask{
		"p and n":                 {p: bad, t: con(1), n: -1},
		"t and n":                 {p: con(1), t: bad, n: 1001},
		"p and t":                 {p: bad, t: bad},
		"p and how many of b":     {p: bad, t: con(1), b: make([]api.Bind, 201)},
		"n and how many of b":     {p: con(1), t: con(1), n: -1, b: make([]api.Bind, 201)},
		"n and params":            {p: con(1), t: con(1), n: 1001, params: []bool{true}},
		"b and params":            {p: con(1), t: con(1), b: binds(is(bad)), params: []bool{}},
		"b and how many of it":    {p: con(1), t: con(1), b: slices.Repeat(binds(is(bad)), 201)},
		"params and a clash":      {p: con(1), t: con(2), params: []bool{true}},
		"params and no such Meta": {p: hole(3), t: con(2), params: []bool{true}},
		"all":                     {p: bad, t: bad, n: -1, b: slices.Repeat(binds(is(bad)), 201), params: []bool{true}},
	} {
		fail(t, name, a, api.ErrArg)
	}
}
