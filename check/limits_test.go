package check_test

import (
	"math"
	"slices"
	"testing"

	"amanuensis/api"
)

// P10.2 and P10.3: subst's errors, as they are

// ahead is what is met of two, one behind the other.
func ahead(e, behind api.Errno) api.Errno {
	if e != api.OK {
		return e
	}
	return behind
}

// doubled is a term of which each is twice the next one, so many times.
func doubled(n int, x api.Term) api.Term {
	for range n {
		x = con(appC, x, x)
	}
	return x
}

// applied is a variable applied so many times, in the end to a term.
func applied(n, head int, x api.Term) api.Term {
	for range n {
		x = vari(head, x)
	}
	return x
}

// double is a function that is as great as its Arg twice.
var (
	double   = lam(con(appC, vari(0), vari(0)))
	function = pi(tm, tm)
)

// What more there is in the signature of growing.
const (
	ofF    = declared + iota // of a term
	manyC                    // of a function: of it, so many times
	aheadC                   // the same, of a number and one of it as well
	tooF                     // of a function, and what is of it
)

// growing is a signature in which what is of a function is of that, so many times.
func growing(n int) over {
	// It is fam(ofF, ..) below one node that binds, and below two.
	first, second := fam(ofF, applied(n, 0, self)), fam(ofF, applied(n, 1, self))
	o := in()
	o.sig = append(o.sig, types(pi(tm, sort), pi(function, first), pis(function, nat, second, nat), pis(function, first, sort))...)
	return o.with(unknown(first, function), unknown(nat, function, first))
}

// grown tells what is met where there is a function that many times.
func grown() map[int]api.Errno {
	l := map[int]api.Errno{}
	for n := range 11 {
		// A self has three nodes, and what is of it one more.
		if l[n] = api.OK; 4*(1<<n) > api.MaxSize {
			l[n] = api.ErrLimit
		}
	}
	l[20], l[50] = api.ErrLimit, api.ErrLimit
	return l
}

func TestATypeThatIsTooGreat(t *testing.T) {
	for n, e := range grown() {
		o, a := growing(n), fam(ofF, doubled(min(n, 9), self))
		holdTerms(t,
			judge{"a constant's", o, con(manyC, double), a, e},
			judge{"a constant's, of another type", o, con(manyC, double), nat, ahead(e, api.ErrType)},
			judge{"a constant's, as an Arg", o, succ(con(manyC, double)), nat, ahead(e, api.ErrType)},
			judge{"a constant's, with one Arg more", o, con(manyC, double, con(99)), a, ahead(e, api.ErrType)},
			judge{"behind a wrong Arg", o, con(manyC, lam(zero)), a, api.ErrType},
			judge{"ahead of the next Arg", o, con(aheadC, double, con(99)), nat, ahead(e, api.ErrScope)},
			judge{"with too few Args", o, con(aheadC, double), nat, ahead(e, api.ErrType)},
			judge{"a variable's", o.more(o.sig[manyC].T), vari(0, double), a, e},
			judge{"a meta's", o, hole(0, double), a, e},
			judge{"a meta's entry's", o.more(a), hole(1, double, vari(0)), nat, e},
			judge{"a meta's entry's, ahead of its Arg", o, hole(1, double, con(99)), nat, ahead(e, api.ErrScope)},
			judge{"a meta's entry's, behind a wrong Arg", o, hole(1, lam(con(99)), con(99)), nat, api.ErrScope},
		)
		holdFormed(t,
			formed{"a type", o.more(a), fam(tooF, double, vari(0)), e, api.ErrType},
			formed{"a type, with too few Args", o, fam(tooF, double), ahead(e, api.ErrType), api.ErrType},
			formed{"a type, ahead of the next Arg", o, fam(tooF, double, con(99)), ahead(e, api.ErrScope), api.ErrType},
			formed{"in a Pi, ahead of what is wrong", o, pi(fam(tooF, double, con(99)), fam(99)), ahead(e, api.ErrScope), ahead(e, api.ErrScope)},
			formed{"in a Pi, behind what is right", o, pis(nat, fam(tooF, double), sort), ahead(e, api.ErrType), ahead(e, api.ErrType)},
		)
	}
}

// A type that is none may apply a function for ever: there is an end to what is done with it.
func TestATypeThatIsNeverReduced(t *testing.T) {
	self := lam(vari(0, vari(0)))
	of := pis(pi(pi(tm, tm), tm), pi(tm, tm), tm)
	// Of two functions, of which the first one is handed the second one.
	m := lams(2, vari(1, lam(vari(1, vari(0)))))
	never := pi(of, vec(vari(0, self, self)))
	o := in(never).with(unknown(never.Args[1], of), unknown(nat, of, never.Args[1]))
	o.sig = append(o.sig, types(never, pis(of, vec(vari(0, self, self)), sort))...)
	holdTerms(t,
		judge{"the function", o, m, of, api.OK},
		judge{"a constant's", o, con(declared, m), vec(zero), api.ErrLimit},
		judge{"a variable's", o, vari(0, m), vec(zero), api.ErrLimit},
		judge{"a meta's", o, hole(0, m), vec(zero), api.ErrLimit},
		judge{"a meta's entry's", o, hole(1, m, con(99)), nat, api.ErrLimit},
		judge{"another function's", o, con(declared, lams(2, con(absC, lam(vari(0))))), vec(con(absC, lam(vari(0)))), api.OK},
	)
	holdFormed(t, formed{"a type", o, fam(declared+1, m, con(99)), api.ErrLimit, api.ErrType})
}

// Where a variable is applied only what is a Lam, or has a head but is no meta, may stand for it.
func TestWhatCanNotBeApplied(t *testing.T) {
	row := vec(vari(0, zero))
	o := in(pi(nat, row)).with(unknown(nat), unknown(row, nat), unknown(nat, nat, row))
	o.sig = append(o.sig, types(pi(nat, row), pis(nat, row, nat), pis(nat, row, sort))...)
	holdTerms(t,
		judge{"a constant's type", o, con(declared, hole(0)), vec(hole(0, zero)), api.ErrType},
		judge{"a constant's type, of a constant", o, con(declared, zero), vec(con(zeroC, zero)), api.OK},
		judge{"ahead of the next Arg", o, con(declared+1, hole(0), con(99)), nat, api.ErrType},
		judge{"ahead of the next Arg, of a constant", o, con(declared+1, zero, con(99)), nat, api.ErrScope},
		judge{"a variable's type", o, vari(0, hole(0)), vec(hole(0, zero)), api.ErrType},
		judge{"a variable's type, of a constant", o, vari(0, zero), vec(con(zeroC, zero)), api.OK},
		judge{"a meta's type", o, hole(1, hole(0)), vec(hole(0, zero)), api.ErrType},
		judge{"a meta's type, of a constant", o, hole(1, zero), vec(con(zeroC, zero)), api.OK},
		judge{"a meta's entry", o, hole(2, hole(0), con(99)), nat, api.ErrType},
		judge{"a meta's entry, of a constant", o, hole(2, zero, con(99)), nat, api.ErrScope},
	)
	holdFormed(t,
		formed{"a type's kind", o, fam(declared+2, hole(0), con(99)), api.ErrType, api.ErrType},
		formed{"a type's kind, of a constant", o, fam(declared+2, zero, con(99)), api.ErrScope, api.ErrType},
	)
}

// Subst takes 200 terms: a meta with more Args is ErrArg, where that is met.
func TestAMetaWithManyArgs(t *testing.T) {
	for _, n := range []int{0, 1, 2, 199, 200, 201, 202, 203, 500} {
		o, right := in().with(unknown(nat, times(n, nat)...)), times(n, zero)
		e := api.OK
		if n > 200 {
			e = api.ErrArg
		}
		holdTerms(t,
			judge{"many", o, hole(0, right...), nat, e},
			judge{"many, of another type", o, hole(0, right...), tm, ahead(e, api.ErrType)},
			judge{"one too many", o, hole(0, append(right, zero)...), nat, api.ErrType},
			judge{"against a Pi", o, hole(0, right...), fun, api.ErrType},
		)
		for i := range n {
			wrong := slices.Clone(right)
			wrong[i] = con(99)
			// Up to the 201st entry there are no more than 200 Args ahead.
			e := api.ErrScope
			if i > 200 {
				e = api.ErrArg
			}
			holdTerms(t, judge{"a wrong one", o, hole(0, wrong...), nat, e})
		}
	}
}

// A variable near the greatest number wraps around (R7), and then may not be: subst has ErrArg of it, where it is asked.
func TestAVariableThatWrapsAround(t *testing.T) {
	last := vec(vari(math.MaxInt))
	o := in(tm, last, pi(nat, last), pi(last, nat), pi(nat, pi(last, nat)))
	holdTerms(t,
		judge{"with no Args", o, vari(3), last, api.ErrType},
		judge{"what is applied comes to it", o, vari(2, zero), last, api.ErrArg},
		judge{"behind a wrong Arg", o, vari(2, con(99)), last, api.ErrScope},
		judge{"an Arg is to be of it", o, vari(1, zero), nat, api.ErrType},
		judge{"an Arg is to be of it, behind another one", o, vari(0, zero, zero), nat, api.ErrArg},
		judge{"as an Arg, ahead of another one", o, con(nextC, vari(2, zero), con(99)), vec(one), api.ErrArg},
		judge{"below a Lam", o, lam(vari(3, zero)), pi(nat, nat), api.ErrArg},
		judge{"a Lam's entry", o, lam(vari(0)), pi(last, last), api.ErrType},
		judge{"behind a Lam's entry", o, lam(vari(5)), pi(last, tm), api.OK},
	)
	o.sig = append(o.sig, types(last, pi(nat, vec(vari(math.MaxInt))))...)
	holdTerms(t,
		judge{"a constant's, which is not up", o, con(declared), last, api.OK},
		judge{"a constant's, behind one that is bound", o, con(declared+1, zero), vec(vari(math.MaxInt - 1)), api.OK},
	)
}
