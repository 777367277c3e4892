package unify_test

import (
	"slices"
	"testing"

	"amanuensis/api"
)

// P8.1: how many nodes are reduced

// wideOnes is how many nodes Meta 0 is, where nodes are to be spent.
const wideOnes = 1000

// spent are pairs, in which so many nodes are reduced till they are gone through; Meta 0 is made a term by the first one.
func spent(t *testing.T, nodes int) []pair {
	t.Helper()
	big := wide(wideOnes)
	// Both are reduced, and then what Meta 0 is to be is resolved.
	l := pairs(pair{hole(0), big})
	nodes -= 2 + wideOnes
	if nodes%2 == 1 {
		l = append(l, pair{hole(0), big})
		nodes -= 2*wideOnes + 1
	}
	for ; nodes >= 2*wideOnes+2; nodes -= 2*wideOnes + 2 {
		l = append(l, pair{hole(0), hole(0)})
	}
	if nodes < 0 {
		t.Fatal("too few nodes to spend")
	}
	return append(l, slices.Repeat(pairs(pair{con(1), con(1)}), nodes/2)...)
}

// What costs something: Metas 1, 2 and 5 have no Args, 3 and 4 have one.
var (
	costSizes = sizes(0, 0, 0, 1, 1, 0)
	two       = pair{hole(1), con(2)}
	twoOf     = pair{hole(4, vari(1)), con(2, vari(1))}
)

// What a thing costs is told by a clash behind it: the last nodes that there are suffice just for that, or do not.
func TestHowManyNodesAreReduced(t *testing.T) {
	deep := con(3, con(1), lam(con(1)))
	for _, x := range []struct {
		name  string
		nodes int
		l     []pair
	}{
		{"nothing more", 0, nil},
		{"nodes", 8, pairs(pair{deep, deep})},
		{"a meta", 2 + 2, pairs(pair{hole(1), con(2, con(3))})},
		{"a meta, turned", 2 + 2, pairs(pair{con(2, con(3)), hole(1)})},
		{"a meta for another one", 2 + 1, pairs(pair{hole(1), hole(2)})},
		{"a meta with an Arg", 2 + 1 + 1, pairs(pair{hole(4, vari(1)), con(2)})},
		{"a meta with an Arg, and nodes", 2 + 2 + 1, pairs(twoOf)},
		{"no pattern", 2 + 1 + 2, pairs(pair{hole(3, con(1, con(1))), con(2)})},
		{"no pattern, a Lam", 2 + 1 + 3, pairs(pair{hole(3, lam(con(1, con(1)))), con(2)})},
		{"in itself", 2 + 2, pairs(pair{hole(1), con(1, hole(1))})},
		{"what is something", 3 + 2 + 1, pairs(two, two)},
		{"what is something, turned", 3 + 1 + 2, pairs(two, pair{con(2), hole(1)})},
		{"both are something", 3 + 2 + 2, pairs(two, pair{hole(1), hole(1)})},
		{"what is another one", 3 + 3 + 3 + 1, pairs(pair{hole(1), hole(2)}, pair{hole(2), con(4)}, pair{hole(1), con(4)})},
		{"what is something, with its Args", 5 + 2 + 1 + 8, pairs(twoOf, pair{hole(4, deep), con(2, deep)})},
		{"one meta", 2 + 1 + 1, pairs(pair{hole(1), hole(1)})},
		{"one meta with Args", 2 + 3 + 3, pairs(pair{hole(3, con(1, con(2))), hole(3, con(1, con(2)))})},
		{"one meta with Args that are something", 3 + 2 + 3 + 2, pairs(two, pair{hole(3, hole(1)), hole(3, con(2))})},
		{"another one instead", 2 + 1 + 1 + 2, pairs(pair{hole(3, con(1)), hole(1)})},
		{"neither one", 2 + 2 + 1 + 2 + 1, pairs(pair{hole(3, con(1)), hole(4, con(1))})},
		{"Args that are something", 3 + 2 + 1 + 2, pairs(two, pair{hole(3, hole(1)), con(1)})},
		{"a term that is something", 3 + 2 + 1 + 2, pairs(two, pair{hole(2), con(3, hole(1))})},
		{"a term that has a meta", 2 + 3, pairs(pair{hole(2), con(3, hole(3, con(1)))})},
	} {
		for name, y := range map[string]struct {
			nodes int
			e     api.Errno
		}{"40000": {api.MaxWork, api.ErrClash}, "40001": {api.MaxWork + 1, api.ErrLimit}} {
			// The nodes of which all pairs are Args are two, and those that clash.
			l := append(spent(t, y.nodes-2-2-x.nodes), x.l...)
			fail(t, x.name+", "+name, all(2, costSizes, append(l, pair{con(1), con(2)})...), y.e)
		}
	}
}

// In the end what all metas are is resolved, one behind the other.
func TestHowManyNodesAreReducedInTheEnd(t *testing.T) {
	for _, x := range []struct {
		name  string
		nodes int
		l     []pair
	}{
		{"nothing more", 0, nil},
		{"a meta", 3 + 1, pairs(two)},
		{"a meta with an Arg", 5 + 2, pairs(twoOf)},
		{"a meta that has another one", 4 + 3 + (1 + 2) + 1, pairs(pair{hole(1), con(1, hole(2))}, pair{hole(2), con(2)})},
		{"metas that are nothing", 4 + 2, pairs(pair{hole(1), con(1, hole(2))})},
		{"what was resolved ahead", 4 + 4 + 3 + (1 + 2) + (1 + 2 + 1) + 1, pairs(pair{hole(2), con(1, hole(1))}, pair{hole(1), con(1, hole(5))}, pair{hole(5), con(4)})},
	} {
		// The nodes of which all pairs are Args are two; in the end there are those of Meta 0.
		given := func(nodes int) ask {
			return all(2, costSizes, append(spent(t, nodes-2-wideOnes-x.nodes), x.l...)...)
		}
		if got, e := given(api.MaxWork).unify(); e != api.OK || len(got) != len(costSizes) || !equal(got[0].T, wide(wideOnes)) {
			t.Errorf("%s, 40000: %v", x.name, e)
		}
		fail(t, x.name+", 40001", given(api.MaxWork+1), api.ErrLimit)
		fail(t, x.name+", 40002", given(api.MaxWork+2), api.ErrLimit)
	}
}

// Far too many nodes do not make it go on for ever: each meta is twice what the next one is.
func TestFarTooManyNodes(t *testing.T) {
	var l []pair
	for i := range mostMetas - 1 {
		l = append(l, pair{hole(i), con(1, hole(i+1), hole(i+1))})
	}
	a := all(0, make([]int, mostMetas), l...)
	fail(t, "in the end", a, api.ErrLimit)
	turned := slices.Clone(l)
	slices.Reverse(turned)
	fail(t, "in what each is to be", all(0, make([]int, mostMetas), turned...), api.ErrLimit)
	chain := slices.Clone(l)
	for i := range chain {
		chain[i].c = hole(i + 1)
	}
	told := slices.Repeat(binds(is(hole(mostMetas-1))), mostMetas-1)
	hold(t, "as many metas as there are, one behind the other", all(0, make([]int, mostMetas), chain...), append(told, non)...)
	fail(t, "one behind the other, and a clash", all(0, make([]int, mostMetas), append(chain, pair{hole(mostMetas - 1), con(2)}, pair{hole(0), con(3)})...), api.ErrClash)
}

// Where there is a node left Apply is asked, and its error is told: the chapter names that first. Where there is none it is not asked any more.
func TestWhereTwoErrorsAreMet(t *testing.T) {
	size := append(slices.Clone(costSizes), 1)
	made := pair{lam(hole(6, vari(0))), lam(vari(0, con(1)))}
	// Made costs seven nodes: both Lams, both below, the two of what the meta is to be, and the meta's Arg.
	for left, e := range map[int]api.Errno{0: api.ErrLimit, 1: api.ErrType, 2: api.ErrType} {
		l := append(spent(t, api.MaxWork-2-7-left), made, pair{hole(6, sort), con(1)})
		fail(t, "no type, and no more nodes", all(0, size, l...), e)
	}
}
