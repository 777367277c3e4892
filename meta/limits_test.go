package meta_test

import (
	"math"
	"testing"

	"amanuensis/api"
	"amanuensis/meta"
)

// P4.1: ErrLimit, the errors of subst's Apply, and which error is met first

func TestAnswersByTheirNodes(t *testing.T) {
	theta := list(wide(1999), con(9), wide(4000), con(0, vari(0), vari(0)))
	hold(t, "4000 nodes", con(0, hole(0), hole(0), con(1)), theta, 0, con(0, wide(1999), wide(1999), con(1)))
	fail(t, "4001 nodes", con(0, hole(0), hole(0), con(1), con(1)), theta, 0, api.ErrLimit)
	fail(t, "4001 nodes, the metas last", con(0, con(1), con(1), hole(0), hole(0)), theta, 0, api.ErrLimit)
	hold(t, "4000 nodes below Lam", lam(con(0, hole(0), hole(0))), theta, 0, lam(con(0, wide(1999), wide(1999))))
	fail(t, "4001 nodes below Lam", lam(con(0, hole(0), hole(0), con(1))), theta, 0, api.ErrLimit)
	hold(t, "4000 nodes in Pi", pi(hole(0), con(0, hole(0))), theta, 0, pi(wide(1999), con(0, wide(1999))))
	fail(t, "4001 nodes in Pi", pi(hole(0), con(0, hole(0), con(1))), theta, 0, api.ErrLimit)
	hold(t, "4000 nodes for a Meta", hole(2), theta, 0, wide(4000))
	fail(t, "4000 nodes for a Meta, and one more", lam(hole(2)), theta, 0, api.ErrLimit)
	fail(t, "4000 nodes for a Meta within", con(0, con(1), con(0, hole(2)), con(1)), theta, 0, api.ErrLimit)
	hold(t, "4000 nodes and 3998 metas", con(0, times(3999, hole(1))...), theta, 0, con(0, times(3999, con(9))...))
	hold(t, "less than there was", hole(1, times(199, con(1))...), theta, 0, con(9))
	hold(t, "an Arg twice", hole(3, wide(1999)), theta, 0, con(0, wide(1999), wide(1999)))
	fail(t, "an Arg twice, of 4001 nodes", hole(3, wide(2000)), theta, 0, api.ErrLimit)
}

// What would have millions of nodes is told of, too.
func TestAnswersFarTooGreat(t *testing.T) {
	theta := list(wide(3990), con(9, vari(0)))
	fail(t, "in one list", con(0, times(3990, hole(0))...), theta, 0, api.ErrLimit)
	fail(t, "below Lams", con(0, times(300, lams(2, hole(0)))...), theta, 0, api.ErrLimit)
	fail(t, "within one another", below(58, con(0, times(300, hole(0))...)), theta, 0, api.ErrLimit)
	fail(t, "in one of the Args", hole(1, con(0, times(300, hole(0))...)), theta, 0, api.ErrLimit)
	fail(t, "in each of the Args", hole(1, times(150, con(0, hole(0), hole(0)))...), theta, 0, api.ErrLimit)
	fail(t, "and an error at the end", con(0, append(times(300, hole(0)), hole(2))...), theta, 0, api.ErrScope)
}

func TestAnswersByTheirDepth(t *testing.T) {
	theta := list(deep(30), con(0, con(0, vari(0))), deep(60), con(9))
	hold(t, "60 deep", below(30, hole(0)), theta, 0, deep(60))
	fail(t, "61 deep", below(31, hole(0)), theta, 0, api.ErrLimit)
	hold(t, "60 deep below Lams", lams(30, hole(0)), theta, 0, lams(30, deep(30)))
	fail(t, "61 deep below Lams", lams(31, hole(0)), theta, 0, api.ErrLimit)
	hold(t, "60 deep in Pi", pi(con(1), below(29, hole(0))), theta, 0, pi(con(1), deep(59)))
	fail(t, "61 deep in Pi", pi(below(30, hole(0)), con(1)), theta, 0, api.ErrLimit)
	hold(t, "60 deep for a Meta", hole(2), theta, 0, deep(60))
	fail(t, "60 deep for a Meta, and one more", con(0, hole(2)), theta, 0, api.ErrLimit)
	hold(t, "60 deep by an Arg", hole(1, deep(58)), theta, 0, deep(60))
	fail(t, "61 deep by an Arg", hole(1, deep(59)), theta, 0, api.ErrLimit)
	hold(t, "60 deep by an Arg within", below(28, hole(1, deep(30))), theta, 0, deep(60))
	fail(t, "61 deep by an Arg within", below(29, hole(1, deep(30))), theta, 0, api.ErrLimit)
	hold(t, "60 deep, which it is not then", below(58, hole(3, con(1))), theta, 0, below(58, con(9)))
}

// An Arg that may not be is told of, even if what its meta is to be has no use for it; one that may be is not.
func TestArgsThatMayNotBe(t *testing.T) {
	theta := list(con(9), wide(1999), deep(59), con(0, vari(0)))
	hold(t, "an Arg of 4000 nodes", hole(0, con(0, hole(1), hole(1), con(1))), theta, 0, con(9))
	fail(t, "an Arg of 4001 nodes", hole(0, con(0, hole(1), hole(1), con(1), con(1))), theta, 0, api.ErrLimit)
	hold(t, "an Arg of 60 deep", hole(0, con(0, hole(2))), theta, 0, con(9))
	fail(t, "an Arg of 61 deep", hole(0, con(0, con(0, hole(2)))), theta, 0, api.ErrLimit)
	fail(t, "the last one of Args", hole(0, con(1), con(1), con(0, con(0, hole(2)))), theta, 0, api.ErrLimit)
	fail(t, "the first one of Args", hole(0, lams(2, hole(2)), con(1)), theta, 0, api.ErrLimit)
	fail(t, "an Arg within an Arg", hole(0, hole(0, lams(2, hole(2)))), theta, 0, api.ErrLimit)
	fail(t, "an Arg below Lam", lam(hole(0, lams(2, hole(2)))), theta, 0, api.ErrLimit)
	// Each Arg may be as great as a term, and what stands beside them too.
	hold(t, "many great Args", hole(0, times(150, hole(1))...), theta, 0, con(9))
	hold(t, "many metas of great Args", con(0, times(700, hole(0, hole(1), con(0, hole(1), hole(1))))...), theta, 0, con(0, times(700, con(9))...))
	hold(t, "a great Arg within an Arg", hole(0, hole(0, con(0, hole(1), hole(1)), hole(1)), con(0, hole(1), hole(1))), theta, 0, con(9))
	// What an Arg became on the way may be, and is more than what may be in the end.
	fail(t, "what an Arg makes of the answer", hole(3, con(0, hole(2))), theta, 0, api.ErrLimit)
}

// The errors of subst's Apply are told, as they are.
func TestErrorsOfApply(t *testing.T) {
	loop := lam(vari(0, vari(0)))
	theta := list(vari(0, con(1)), vari(0, vari(0)), con(9), con(0, vari(0), vari(0)), con(0, con(0, vari(0))), vari(0, con(1), con(2)))
	for _, x := range []struct {
		name string
		t    api.Term
		e    api.Errno
	}{
		{"a Sort that is applied", hole(0, sort), api.ErrType},
		{"a Pi that is applied", hole(0, pi(sort, sort)), api.ErrType},
		{"a Lam of what takes nothing", hole(5, lam(sort)), api.ErrType},
		{"a Sort that is applied, below Pi", pi(con(1), hole(0, sort)), api.ErrType},
		{"what never ends", hole(1, loop), api.ErrLimit},
		{"what never ends, in an Arg that is dropped", hole(2, hole(1, loop)), api.ErrLimit},
		{"an answer by its nodes", hole(3, wide(2000)), api.ErrLimit},
		{"an answer by its nodes, in an Arg that is dropped", hole(2, hole(3, wide(2000))), api.ErrLimit},
		{"an answer 60 deep", hole(4, deep(58)), api.OK},
		{"an answer 60 deep, in an Arg that is dropped", hole(2, hole(4, deep(58))), api.OK},
		{"an answer by its depth, in an Arg that is dropped", hole(2, hole(4, hole(4, deep(57)))), api.ErrLimit},
		{"200 Args", hole(2, times(200, con(1))...), api.OK},
		{"201 Args", hole(2, times(201, con(1))...), api.ErrArg},
		{"3999 Args", hole(2, times(3999, con(1))...), api.ErrArg},
		{"201 Args in an Arg", hole(2, hole(2, times(201, con(1))...)), api.ErrArg},
		{"200 Args below Lam", lam(hole(2, times(200, vari(0))...)), api.OK},
		{"a Lam of enough", hole(5, lams(2, sort)), api.OK},
	} {
		got, e := meta.Fill(x.t, theta, 1)
		holds(t, x.name, got, e, got, x.e)
	}
	fail(t, "a Meta of theta that is applied", hole(0, hole(1)), list(vari(0, con(1)), hole(4)), 0, api.ErrType)
	fail(t, "a variable beyond all", hole(0), list(vari(math.MaxInt)), 1, api.ErrLimit)
	hold(t, "a variable beyond all, with an Arg", hole(0, con(1)), list(vari(math.MaxInt)), 1, vari(math.MaxInt))
	fail(t, "a variable beyond all, below Lams", lams(3, hole(0, con(1))), list(vari(math.MaxInt-2)), 1, api.ErrLimit)
}

// Work is counted anew for each meta: here one of them has 1 node, and 3904 for each time that something is dropped.
func TestWorkIsOfOneMeta(t *testing.T) {
	dropped := vari(0, vari(1, con(1)))
	theta := list(con(0, times(10, dropped)...), con(0, times(11, dropped)...), wide(3900))
	x := func(head int) api.Term { return hole(head, lam(hole(2)), lam(con(9))) }
	done := con(0, times(10, con(9))...)
	hold(t, "39041 nodes", x(0), theta, 0, done)
	fail(t, "42945 nodes", x(1), theta, 0, api.ErrLimit)
	hold(t, "20 times 39041 nodes", con(0, times(20, x(0))...), theta, 0, con(0, times(20, done)...))
	fail(t, "42945 nodes behind others", con(0, x(0), x(0), x(1)), theta, 0, api.ErrLimit)
}

func TestTheFirstErrorThatIsMet(t *testing.T) {
	theta := list(con(9), vari(0, con(1)), wide(3000), vari(0, vari(0)))
	none, untaken, endless := hole(4), hole(1, sort), hole(3, lam(vari(0, vari(0))))
	great := con(0, hole(2), hole(2))
	tooMany := hole(0, times(201, con(1))...)
	for _, x := range []struct {
		name string
		t    api.Term
		e    api.Errno
	}{
		{"a scope ahead of a type", con(0, none, untaken), api.ErrScope},
		{"a type ahead of a scope", con(0, untaken, none), api.ErrType},
		{"a type ahead of work", con(0, untaken, endless), api.ErrType},
		{"work ahead of a type", con(0, endless, untaken), api.ErrLimit},
		{"too many Args ahead of a scope", con(0, tooMany, none), api.ErrArg},
		{"a scope ahead of too many Args", con(0, none, tooMany), api.ErrScope},
		{"Pi's first one ahead of its second one", pi(none, untaken), api.ErrScope},
		{"Pi's first one ahead of its second one, the other way", pi(untaken, none), api.ErrType},
		{"deep ahead of what is behind", con(0, lam(con(0, con(1), untaken)), none), api.ErrType},
		{"an Arg ahead of the Meta's Head", hole(4, untaken), api.ErrType},
		{"an Arg's Arg ahead of the Meta's Head", hole(4, con(0, endless)), api.ErrLimit},
		{"the first Arg ahead of the second one", hole(0, untaken, none), api.ErrType},
		{"the second Arg ahead of the Head", hole(4, con(1), untaken), api.ErrType},
		{"a Head ahead of an Arg that may not be", hole(4, great), api.ErrScope},
		{"a Head ahead of too many Args", hole(4, times(201, con(1))...), api.ErrScope},
		{"a Head ahead of an Arg that takes nothing", hole(4, sort), api.ErrScope},
		{"an error in the second Arg ahead of a first one that may not be", hole(0, great, none), api.ErrScope},
		{"an Arg that may not be ahead of too many", hole(0, append(times(200, con(1)), great)...), api.ErrLimit},
		{"an Arg that may not be ahead of one that is applied", hole(1, great, sort), api.ErrLimit},
		{"an Arg that may not be ahead of what is behind", con(0, hole(0, great), none), api.ErrLimit},
		{"what is ahead of an Arg that may not be", con(0, none, hole(0, great)), api.ErrScope},
		{"an answer that may not be is met last: a scope", con(0, great, great, none), api.ErrScope},
		{"an answer that may not be is met last: a type", con(0, great, lam(great), untaken), api.ErrType},
		{"an answer that may not be is met last: too many Args", con(0, great, tooMany), api.ErrArg},
		{"what may not be ahead of all", con(0, none, untaken, vari(-1)), api.ErrArg},
	} {
		fail(t, x.name, x.t, theta, 2, x.e)
	}
	fail(t, "a theta that may not be ahead of all", con(0, none, untaken), append(theta[:4:4], vari(-1)), 2, api.ErrArg)
	fail(t, "n ahead of all", con(0, none, untaken), theta, 1001, api.ErrArg)
}

// An error leaves nothing behind.
func TestNothingHangsOnWhatWasAskedBefore(t *testing.T) {
	theta := list(con(2, vari(0), vari(1)), wide(3000))
	for range 5 {
		fail(t, "before", con(0, hole(1), hole(1)), theta, 0, api.ErrLimit)
		fail(t, "before", hole(2), theta, 0, api.ErrScope)
		hold(t, "behind", hole(0, con(7)), theta, 3, con(2, con(7), vari(3)))
		hold(t, "behind", lam(hole(1)), theta, 3, lam(wide(3000)))
	}
}
