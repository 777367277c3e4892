package subst_test

import (
	"math"
	"slices"
	"testing"

	"amanuensis/api"
	"amanuensis/subst"
)

// P3.3

// drop takes something and tells a constant, loop never ends when it takes itself, none takes nothing.
var (
	drop = lam(con(9))
	loop = lam(vari(0, vari(0)))
	none = meta(0)
)

// dropped is, with drop for 0 and a Lam of 3901 nodes for 1, by 3905 nodes that are gone to a constant.
func dropped() api.Term { return vari(0, vari(1, con(1))) }

func TestWorkOfApply(t *testing.T) {
	s := by(0, lam(wide(3900)), drop)
	ten := func(x api.Term, more int) api.Term {
		return con(0, append(times(10, x), times(more, con(1))...)...)
	}
	holdApply(t, "40000 nodes", ten(dropped(), 949), s, ten(con(9), 949))
	failApply(t, "40001 nodes", ten(dropped(), 950), s, api.ErrLimit)
	holdApply(t, "less", ten(dropped(), 0), s, ten(con(9), 0))
	s = by(0, lam(wide(3900)), lam(drop))
	holdApply(t, "40000 nodes, with a Lam in a Lam", ten(dropped(), 939), s, ten(drop, 939))
	failApply(t, "40001 nodes, with a Lam in a Lam", ten(dropped(), 940), s, api.ErrLimit)
	failApply(t, "far more", con(0, times(1000, dropped())...), s, api.ErrLimit)
}

// Below so many Lams, with as many args, each Lam and all below it is gone to once for each arg ahead.
func TestWorkOfSpine(t *testing.T) {
	holdSpine(t, "40000 nodes", lams(25, wide(1587)), times(25, con(2)), wide(1587))
	failSpine(t, "40001 nodes", lams(13, wide(3070)), times(13, con(2)), api.ErrLimit)
	failSpine(t, "40025 nodes", lams(25, wide(1588)), times(25, con(2)), api.ErrLimit)
	holdSpine(t, "nothing is gone to", con(0), times(3999, con(1)), wide(3999))
	many := lam(con(0, times(1999, vari(0))...))
	holdSpine(t, "a variable counts one, whatever it becomes", many, list(con(1)), wide(1999))
}

// What a variable is mapped to is not gone to.
func TestWorkIsOfNodesThatApplyComesTo(t *testing.T) {
	big := wide(3900)
	s := by(0, big, drop)
	x := con(0, times(1000, vari(0, vari(1)))...)
	holdApply(t, "3001 nodes", x, s, con(0, times(1000, con(9))...))
}

func TestWhatNeverEnds(t *testing.T) {
	for name, x := range map[string]api.Term{
		"itself":          loop,
		"ever deeper":     lam(con(1, vari(0, vari(0)))),
		"ever wider":      lam(vari(0, vari(0), vari(0))),
		"below Lam":       lam(lam(vari(1, vari(1)))),
		"by Pi":           lam(pi(vari(0, vari(0)), sort)),
		"below Pi":        lam(pi(sort, vari(1, vari(1)))),
		"twice":           lam(con(1, vari(0, vari(0)), vari(0, vari(0)))),
		"with more in it": lam(vari(0, lam(vari(1, vari(0))), con(3))),
	} {
		failSpine(t, name, x, list(x, x), api.ErrLimit)
		failApply(t, name, vari(0, vari(0), vari(0)), by(0, x), api.ErrLimit)
	}
	failApply(t, "both", vari(0, loop), by(0, loop), api.ErrLimit)
}

// Numbers by Lams, each of the next one: there are ends to it, but too far.
func TestWhatEndsTooFar(t *testing.T) {
	two := lam(lam(vari(1, vari(1, vari(0)))))
	holdSpine(t, "two of two", two, list(two, lam(con(1, vari(0))), con(2)), con(1, con(1, con(1, con(1, con(2))))))
	failSpine(t, "two of two of two of two of two", two, times(4, two), api.ErrLimit)
}

func TestAnswersByTheirNodes(t *testing.T) {
	s := by(0, wide(1998))
	holdApply(t, "4000 nodes", con(0, vari(0), vari(0), con(1)), s, con(0, wide(1998), wide(1998), con(1)))
	failApply(t, "4001 nodes", con(0, vari(0), vari(0), con(1), con(1)), s, api.ErrLimit)
	failApply(t, "4001 nodes below Lam", lam(con(0, vari(1), vari(1), con(1))), s, api.ErrLimit)
	holdApply(t, "4000 nodes by Args", vari(0, times(2001, con(1))...), s, wide(3999))
	failApply(t, "4001 nodes by Args", vari(0, times(2002, con(1))...), s, api.ErrLimit)
	holdApply(t, "4000 nodes for a variable", vari(0), by(0, wide(3999)), wide(3999))
	failApply(t, "far more", lam(con(0, times(3990, vari(1))...)), by(0, wide(3990)), api.ErrLimit)
	holdSpine(t, "4000 nodes", con(0, con(1)), times(3998, con(1)), wide(3999))
	failSpine(t, "4001 nodes", con(0, con(1)), times(3999, con(1)), api.ErrLimit)
	failSpine(t, "4001 nodes of great ones", vari(0), list(wide(1999), wide(1999)), api.ErrLimit)
	holdSpine(t, "4000 nodes by a Lam", lam(con(0, vari(0), vari(0), con(1))), list(wide(1998)), con(0, wide(1998), wide(1998), con(1)))
	failSpine(t, "4001 nodes by a Lam", lam(con(0, vari(0), vari(0), con(1), con(1))), list(wide(1998)), api.ErrLimit)
}

func TestAnswersByTheirDepth(t *testing.T) {
	s := by(0, deep(30))
	chain := func(n int) api.Term { // n nodes, with the variable 0 in the last one
		x := con(0, vari(0))
		for range n - 1 {
			x = con(0, x)
		}
		return x
	}
	holdApply(t, "60 deep", chain(30), s, deep(60))
	failApply(t, "61 deep", chain(31), s, api.ErrLimit)
	holdApply(t, "60 deep, for a variable", vari(0), by(0, deep(60)), deep(60))
	holdApply(t, "60 deep below Lams", lams(30, vari(30)), s, lams(30, deep(30)))
	failApply(t, "61 deep below Lams", lams(31, vari(31)), s, api.ErrLimit)
	holdSpine(t, "60 deep", con(0), list(deep(59)), deep(60))
	failSpine(t, "61 deep", con(0), list(deep(60)), api.ErrLimit)
	holdSpine(t, "60 deep by a Lam", lam(chain(30)), list(deep(30)), deep(60))
	failSpine(t, "61 deep by a Lam", lam(chain(30)), list(deep(31)), api.ErrLimit)
}

// A sum that wraps around makes a variable below 0: a term that may not be.
func TestAnswersByTheirHeads(t *testing.T) {
	holdApply(t, "the greatest variable", vari(math.MaxInt), by(0), vari(math.MaxInt))
	holdApply(t, "the greatest variable, one less and one more", vari(math.MaxInt), by(1, con(1)), vari(math.MaxInt))
	failApply(t, "the greatest variable, one more", vari(math.MaxInt), by(1), api.ErrLimit)
	failApply(t, "the greatest variable, 2^20 more", vari(math.MaxInt, con(1)), by(mostShift), api.ErrLimit)
	holdApply(t, "the greatest variable below Lam", lam(vari(math.MaxInt)), by(1, con(1)), lam(vari(math.MaxInt)))
	failApply(t, "the greatest variable below Lam, one more", lam(vari(math.MaxInt)), by(1), api.ErrLimit)
	failApply(t, "up below Lam", lam(vari(1)), by(0, vari(math.MaxInt)), api.ErrLimit)
	failApply(t, "up below three Lams", lams(3, vari(3)), by(0, vari(math.MaxInt-1)), api.ErrLimit)
	holdApply(t, "up below three Lams, the greatest", lams(3, vari(3)), by(0, vari(math.MaxInt-3)), lams(3, vari(math.MaxInt)))
	failApply(t, "up below Lam, in a Lam that takes something", lam(vari(1, con(1))), by(0, lam(vari(math.MaxInt, vari(0)))), api.ErrLimit)
	failApply(t, "up below Lam, twice one less", lam(vari(1, con(1), con(2))), by(0, lam(lam(vari(math.MaxInt, vari(0))))), api.ErrLimit)
	failApply(t, "up below Lam, and dropped", lam(vari(1, vari(2))), by(0, vari(math.MaxInt), drop), api.ErrLimit)
	holdApply(t, "great heads of what is no variable", vari(0, meta(math.MaxInt)), by(mostShift, con(math.MaxInt)), con(math.MaxInt, meta(math.MaxInt)))
}

// What a Lam takes may be, or it is ErrLimit, even if the Lam drops it.
func TestArgsOfALamThatMayNotBe(t *testing.T) {
	s := by(0, wide(1998), drop)
	holdApply(t, "an arg of 4000 nodes", vari(0, con(0, vari(1), vari(1), con(1))), s, con(9))
	failApply(t, "an arg of 4001 nodes", vari(0, con(0, vari(1), vari(1), con(1), con(1))), s, api.ErrLimit)
	holdApply(t, "an arg 60 deep", vari(0, con(0, vari(1))), by(0, deep(59), drop), con(9))
	failApply(t, "an arg 61 deep", vari(0, con(0, vari(1))), by(0, deep(60), drop), api.ErrLimit)
	failApply(t, "an arg whose head wraps around", vari(0, vari(math.MaxInt)), by(2, drop), api.ErrLimit)
	great := con(0, vari(1), vari(1), vari(1))
	failApply(t, "the second arg", vari(0, con(1), great), by(0, wide(1998), lam(lam(con(9)))), api.ErrLimit)
	inner := lam(vari(0, con(0, vari(1), vari(1))))
	failSpine(t, "an arg that is made on the way", lam(inner), list(wide(3000), drop), api.ErrLimit)
	holdSpine(t, "an arg that is made on the way, and may be", lam(inner), list(wide(1998), drop), con(9))
}

// What becomes of a term on the way may be too great, if in the end it is not.
func TestOnTheWayItMayBeGreat(t *testing.T) {
	three := lam(lam(vari(0, vari(1), vari(1), vari(1))))
	holdSpine(t, "by its nodes", three, list(wide(3000), lams(3, con(9))), con(9))
	holdSpine(t, "one of three", three, list(wide(3000), lams(3, vari(1))), wide(3000))
	failSpine(t, "and in the end", three, list(wide(3000), con(9)), api.ErrLimit)
	failSpine(t, "and stays so below a Lam", three, list(wide(3000)), api.ErrLimit)
	holdSpine(t, "by its depth", lam(lam(vari(0, vari(1)))), list(deep(60), drop), con(9))
	x := vari(1)
	for range 56 {
		x = con(0, x)
	}
	holdSpine(t, "an arg 60 deep", lam(lam(vari(0, x))), list(deep(4), drop), con(9))
	failSpine(t, "an arg 61 deep", lam(lam(vari(0, x))), list(deep(5), drop), api.ErrLimit)
	holdApply(t, "for a variable", vari(0, vari(1), lams(3, con(9))), by(0, wide(3000), three), con(9))
}

func TestTheFirstErrorThatIsMet(t *testing.T) {
	s := by(0, none, wide(3000), drop, loop)
	endless, untaken, great := vari(0, vari(0)), vari(3, con(1)), vari(2)
	for _, x := range []struct {
		name string
		t    api.Term
		want api.Errno
	}{
		{"work ahead of a type", con(0, endless, untaken), api.ErrLimit},
		{"a type ahead of work", con(0, untaken, endless), api.ErrType},
		{"a type ahead of work below Lam", con(0, pi(sort, vari(4, con(1))), endless), api.ErrType},
		{"a great answer is met last: a type", con(0, great, great, untaken), api.ErrType},
		{"an arg that may not be ahead of a type", con(0, vari(1, con(0, great, great)), untaken), api.ErrLimit},
		{"a type ahead of an arg that may not be", con(0, untaken, vari(1, con(0, great, great))), api.ErrType},
		{"what takes nothing, of an arg that may not be", vari(3, con(0, great, great)), api.ErrType},
		{"an error in an Arg ahead of the Lam that drops it", vari(1, untaken), api.ErrType},
		{"an error in an Arg ahead of what takes none", vari(3, endless), api.ErrLimit},
		{"an error in an Arg's Arg", vari(3, con(0, endless)), api.ErrLimit},
		{"an error in the second Arg ahead of a first one that may not be", vari(1, con(0, great, great), untaken), api.ErrType},
		{"Pi's first one ahead of its second one", pi(untaken, vari(1, vari(1))), api.ErrType},
		{"Pi's first one ahead of its second one, the other way", pi(endless, vari(4, con(1))), api.ErrLimit},
	} {
		failApply(t, x.name, x.t, s, x.want)
	}
	failSpine(t, "work in a Lam ahead of args that are left", lam(con(0, vari(0, vari(0)))), list(loop, con(1)), api.ErrLimit)
	failSpine(t, "a type in a Lam ahead of a great answer", lam(lam(con(0, vari(0), vari(0), vari(1, con(1))))), list(none, wide(3000)), api.ErrType)
	failApply(t, "a great answer that takes nothing", vari(0, vari(1), con(1)), by(0, wide(3000), lam(meta(0, vari(0), vari(0)))), api.ErrType)
	failApply(t, "a second arg that may not be, of what takes one", vari(0, con(1), con(0, vari(1), vari(1))), by(0, wide(3000), lam(none)), api.ErrType)
	failApply(t, "what may not be ahead of all", con(0, endless, untaken, vari(-1)), s, api.ErrArg)
	failApply(t, "a substitution that may not be ahead of all", con(0, endless, untaken), by(-1, s.L...), api.ErrArg)
	failSpine(t, "an arg that may not be ahead of all", loop, list(loop, vari(-1)), api.ErrArg)
	failSpine(t, "an arg that may not be ahead of a type", none, list(con(1), vari(-1)), api.ErrArg)
}

// Work is counted anew for each call, and an error leaves nothing behind.
func TestNothingHangsOnWhatWasAskedBefore(t *testing.T) {
	x, args := lams(25, wide(1587)), times(25, con(2))
	for range 5 {
		failSpine(t, "before", loop, list(loop), api.ErrLimit)
		failApply(t, "before", vari(0, con(1)), by(0, none), api.ErrType)
		holdSpine(t, "behind", x, args, wide(1587))
	}
}

// Each node that binds could have all of L renumbered: that is 1300 times 200 terms of 4000 nodes.
func TestGreatSubstitutionsBelowWhatBinds(t *testing.T) {
	l := slices.Repeat([]api.Term{con(0, times(3999, vari(0))...)}, mostTerms)
	x := con(0, times(1300, lam(vari(0, vari(0))))...)
	if got, e := subst.Apply(x, by(0, l...)); e != api.OK || !equal(got, x) {
		t.Errorf("error %d", e)
	}
	many := lam(con(0, times(3990, vari(1))...))
	failApply(t, "one of them all over", many, by(0, l...), api.ErrLimit)
}
