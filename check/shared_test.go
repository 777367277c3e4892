package check_test

import (
	"slices"
	"testing"

	"amanuensis/api"
)

// R3

func copied(t api.Term) api.Term {
	return node(t.Kind, t.Head, copiedList(t.Args)...)
}

func copiedList(l []api.Term) []api.Term {
	l = slices.Clone(l)
	for i := range l {
		l[i] = copied(l[i])
	}
	return l
}

func (o over) copied() over {
	o.sig, o.metas, o.ctx = slices.Clone(o.sig), slices.Clone(o.metas), copiedList(o.ctx)
	for i := range o.sig {
		o.sig[i].T = copied(o.sig[i].T)
	}
	for i, m := range o.metas {
		o.metas[i].Ctx, o.metas[i].T = copiedList(m.Ctx), copied(m.T)
	}
	return o
}

func equalDecl(a, b api.Decl) bool { return a.Name == b.Name && equal(a.T, b.T) }

func equalMeta(a, b api.MetaDecl) bool {
	return slices.EqualFunc(a.Ctx, b.Ctx, equal) && equal(a.T, b.T) && a.Param == b.Param
}

func (o over) equal(b over) bool {
	return slices.EqualFunc(o.sig, b.sig, equalDecl) && slices.EqualFunc(o.metas, b.metas, equalMeta) && slices.EqualFunc(o.ctx, b.ctx, equal)
}

// given are things to check, of all sorts: right ones and wrong ones.
func given() (over, []judge) {
	o := in(nat, pi(fun, vec(vari(0, vari(1)))), vec(vari(1))).with(unknown(vec(vari(1)), nat, vec(vari(0))), unknown(tm, function, tm))
	o.metas[1].Param = true
	row := vec(vari(2))
	return o, []judge{
		{"entries", o, lams(3, con(appC, vari(1), vari(0, vari(2)))), pis(nat, tm, pi(nat, tm), tm), api.OK},
		{"entries beside others", o, lam(con(appC, con(absC, lam(vari(1))), con(absC, lam(con(appC, vari(1), vari(0)))))), pi(tm, tm), api.OK},
		{"a wrong one of these", o, lam(con(appC, con(absC, lam(vari(1))), con(absC, lam(vari(2))))), pi(tm, tm), api.ErrType},
		{"a variable of a Lam", o, vari(1, lam(vari(0))), row, api.OK},
		{"a meta", o, hole(0, vari(2), vari(1, lam(vari(0)))), row, api.OK},
		{"a meta of a Lam", o, hole(1, lam(con(appC, vari(0), vari(0))), con(absC, lam(hole(1, lam(vari(1)), vari(0))))), tm, api.OK},
		{"a meta of a wrong one", o, hole(1, lam(con(appC, vari(0), con(99))), self), tm, api.ErrScope},
		{"a function", o, con(twiceC, lam(succ(vari(0))), con(nextC, zero, zero, con(noneC))), vec(succ(one)), api.OK},
		{"another type", o, con(twiceC, lam(succ(vari(0))), con(nextC, zero, zero, con(noneC))), row, api.ErrType},
		{"what may not be", o, con(twiceC, vari(-1)), row, api.ErrArg},
		{"a great one", growing(20), con(manyC, double), nat, api.ErrLimit},
	}
}

// givenFormed are types and kinds.
func givenFormed() []formed {
	o, _ := given()
	return []formed{
		{"Pis", o, pis(nat, vec(vari(0)), pi(tm, vec(vari(2))), plus(vari(2), vari(5), zero)), api.OK, api.ErrType},
		{"Pis to a Sort", o, pis(nat, vec(vari(0)), pi(tm, vec(vari(2))), sort), api.ErrType, api.OK},
		{"Pis of Pis", o, pis(pis(nat, vec(vari(0)), tm), pis(tm, nat, vec(vari(0))), vec(vari(4))), api.OK, api.ErrType},
		{"wrong Pis", o, pis(nat, vec(vari(0)), pi(tm, vec(vari(0))), sort), api.ErrType, api.ErrType},
		{"of a Lam", o, vec(vari(1, lam(vari(0)))), api.ErrType, api.ErrType},
	}
}

func TestNothingGivenIsChanged(t *testing.T) {
	_, l := given()
	for _, x := range l {
		o, m, a := x.copied(), copied(x.m), copied(x.a)
		holdTerms(t, x)
		if !x.over.equal(o) || !equal(x.m, m) || !equal(x.a, a) {
			t.Errorf("%s: what was given was changed by Term", x.name)
		}
	}
	for _, x := range givenFormed() {
		o, m := x.copied(), copied(x.t)
		holdFormed(t, x)
		if !x.over.equal(o) || !equal(x.t, m) {
			t.Errorf("%s: what was given was changed by Type or Kind", x.name)
		}
	}
}

// roomy is a list with room behind it, in which marks stand.
func roomy(l []api.Term) []api.Term {
	l = slices.Concat(l, times(70, con(77)))[:len(l)]
	for i := range l {
		l[i].Args = roomy(l[i].Args)
	}
	return l
}

func marked(l []api.Term) bool {
	for _, x := range l[len(l):cap(l)][:70] {
		if !equal(x, con(77)) {
			return false
		}
	}
	return !slices.ContainsFunc(l, func(x api.Term) bool { return !marked(x.Args) })
}

// allOf are all lists of terms of something.
func (o over) allOf() [][]api.Term {
	l := [][]api.Term{o.ctx}
	for _, d := range o.sig {
		l = append(l, d.T.Args)
	}
	for _, m := range o.metas {
		l = append(l, m.Ctx, m.T.Args)
	}
	return l
}

func (o over) roomy() over {
	o = o.copied()
	o.ctx = roomy(o.ctx)
	for i := range o.sig {
		o.sig[i].T.Args = roomy(o.sig[i].T.Args)
	}
	for i := range o.metas {
		o.metas[i].Ctx, o.metas[i].T.Args = roomy(o.metas[i].Ctx), roomy(o.metas[i].T.Args)
	}
	return o
}

// An entry more is put behind no list that was handed in, though that has room.
func TestRoomBehindAList(t *testing.T) {
	_, l := given()
	for _, x := range l {
		x.over = x.roomy()
		l := roomy(list(x.m, x.a))
		x.m, x.a = l[0], l[1]
		holdTerms(t, x)
		if !marked(l) || slices.ContainsFunc(x.allOf(), func(l []api.Term) bool { return !marked(l) }) {
			t.Errorf("%s: what lies behind a given list was changed by Term", x.name)
		}
	}
	for _, x := range givenFormed() {
		x.over = x.roomy()
		l := roomy(list(x.t))
		x.t = l[0]
		holdFormed(t, x)
		if !marked(l) || slices.ContainsFunc(x.allOf(), func(l []api.Term) bool { return !marked(l) }) {
			t.Errorf("%s: what lies behind a given list was changed by Type or Kind", x.name)
		}
	}
}

// What stands beside what binds goes on in its own context.
func TestEntriesBesideOthers(t *testing.T) {
	two := pis(function, fun, tm)
	o := in(tm, nat).with(unknown(tm, function, fun, tm))
	o.sig = append(o.sig, types(two, pis(function, fun, nat, tm), pis(pis(nat, nat, nat), function, pis(tm, nat, tm), tm))...)
	o.ctx = slices.Grow(append(o.ctx, two), 60)
	holdTerms(t,
		judge{"two Lams", o, con(declared, lam(vari(0)), lam(vari(0))), tm, api.OK},
		judge{"two Lams, the other one", o, con(declared, lam(vari(0)), lam(vari(1))), tm, api.ErrType},
		judge{"two Lams of a variable", o, vari(0, lam(vari(3)), lam(vari(2))), tm, api.OK},
		judge{"two Lams of a meta", o, hole(0, lam(con(appC, vari(0), vari(3))), lam(succ(vari(2))), vari(2)), tm, api.OK},
		judge{"behind two Lams", o, con(declared+1, lam(vari(0)), lam(vari(0)), vari(1)), tm, api.OK},
		judge{"what was bound beside it", o, con(declared+1, lam(vari(0)), lam(vari(0)), vari(0)), tm, api.ErrType},
		judge{"what was bound beside it, and is gone", o, con(declared+1, lam(vari(0)), lam(vari(0)), vari(3)), tm, api.ErrScope},
		judge{"Lams in Lams", o, con(declared+2, lams(2, vari(1)), lam(con(absC, lam(con(appC, vari(0), vari(1))))), lams(2, con(declared, lam(vari(2)), lam(vari(1))))), tm, api.OK},
		judge{"Lams in Lams, another one", o, con(declared+2, lams(2, vari(1)), lam(con(absC, lam(con(appC, vari(0), vari(1))))), lams(2, con(declared, lam(vari(1)), lam(vari(1))))), tm, api.ErrType},
	)
}

// R5: nothing hangs on what was asked before.
func TestTheSameEachTime(t *testing.T) {
	_, l := given()
	for range 100 {
		holdTerms(t, l...)
		holdFormed(t, givenFormed()...)
		slices.Reverse(l)
	}
}

// Calls at the same time, over the same lists, do not meet.
func TestCallsAtTheSameTime(t *testing.T) {
	o, l := given()
	o = o.roomy()
	formed := givenFormed()
	done := make(chan bool)
	for range 8 {
		go func() {
			right := true
			for range 20 {
				for _, x := range l[:10] {
					right = right && o.term(x.m, x.a) == x.e
				}
				for _, x := range formed {
					right = right && o.typ(x.t) == x.typ && o.kind(x.t) == x.kind
				}
			}
			done <- right
		}()
	}
	for range 8 {
		if !<-done {
			t.Error("not as alone")
		}
	}
}
