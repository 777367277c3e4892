package world_test

import (
	"slices"
	"testing"

	"amanuensis/api"
	"amanuensis/world"
)

// R3

func copied(t api.Term) api.Term {
	return node(t.Kind, t.Head, copiedList(t.Args)...)
}

func copiedList(l []api.Term) []api.Term {
	l = slices.Clone(l)
	for i := range l {
		l[i] = copied(l[i])
	}
	return l
}

func copiedSig(sig []api.Decl) []api.Decl {
	sig = slices.Clone(sig)
	for i := range sig {
		sig[i].T = copied(sig[i].T)
	}
	return sig
}

func copiedMetas(l []api.MetaDecl) []api.MetaDecl {
	l = slices.Clone(l)
	for i, m := range l {
		l[i].Ctx, l[i].T = copiedList(m.Ctx), copied(m.T)
	}
	return l
}

func (b behind) copied() behind {
	return behind{copiedSig(b.sig), copiedMetas(b.metas), copiedList(b.around), copiedList(b.ctx)}
}

func equalDecl(a, b api.Decl) bool { return a.Name == b.Name && equal(a.T, b.T) }

func equalMeta(a, b api.MetaDecl) bool {
	return slices.EqualFunc(a.Ctx, b.Ctx, equal) && equal(a.T, b.T) && a.Param == b.Param
}

func (b behind) equal(c behind) bool {
	return slices.EqualFunc(b.sig, c.sig, equalDecl) && slices.EqualFunc(b.metas, c.metas, equalMeta) &&
		slices.EqualFunc(b.around, c.around, equal) && slices.EqualFunc(b.ctx, c.ctx, equal)
}

// asked is something that is asked of all four, and what they tell: the context also stands for a schema, over the same signature.
type asked struct {
	name string
	behind
	sigs     place
	ctxs     api.Errno
	schemas  api.Errno
	conforms bool
}

// given are things of all sorts, made anew each time: right ones and wrong ones.
func given() []asked {
	metas := []api.MetaDecl{unknown(nat, nat), {T: tm, Param: true}, unknown(vec(vari(0)), nat, vec(vari(0)))}
	around := func() []api.Term { return list(nat, pi(nat, nat), vec(vari(0, vari(1)))) }
	row := vec(succ(one))
	ill := system()
	ill[vecF].T = pi(nat, pi(tm, fam(99)))
	return []asked{
		{"nothing", behind{}, right, api.OK, api.OK, true},
		{"a schema", behind{system(), copiedMetas(metas), around(), list(nat, row, tm, row)}, right, api.OK, api.OK, false},
		{"entries of entries", behind{system(), nil, around(), list(nat, vec(vari(0)), pis(vec(vari(3, vari(4))), tm, vec(vari(3))), vec(vari(2)))}, right, api.OK, api.ErrScope, false},
		{"entries of metas", behind{system(), copiedMetas(metas), around(), list(vec(hole(0, vari(2))), vec(hole(0, vari(2, vari(3)))))}, right, api.OK, api.ErrScope, false},
		{"a wrong entry", behind{system(), copiedMetas(metas), around(), list(nat, vec(vari(2)), fam(99))}, right, api.ErrType, api.ErrScope, false},
		{"no Fam", behind{system(), nil, nil, list(nat, pi(nat, vec(vari(0))), vec(vari(1)))}, right, api.OK, api.ErrArg, false},
		{"what is around", behind{system(), nil, list(nat, tm, row), list(tm, nat, row, nat)}, right, api.OK, api.OK, true},
		{"a wrong signature", behind{ill, nil, around(), list(nat, fam(vecF))}, place{vecF, api.ErrScope}, api.ErrScope, api.ErrScope, false},
		{"what may not be", behind{system(), nil, list(con(-1)), list(con(-1), node(8, 8, nat))}, right, api.ErrArg, api.ErrArg, false},
		{"many", behind{types(times(41, sort)...), nil, times(3, nat), times(41, nat)}, place{0, api.ErrLimit}, api.ErrLimit, api.ErrLimit, true},
	}
}

func (a asked) hold(t *testing.T) {
	t.Helper()
	holdSig(t, a.name, a.sig, a.sigs)
	holdCtx(t, a.name, a.behind, a.ctxs)
	holdSchema(t, a.name, a.sig, a.ctx, a.schemas)
	holdConforms(t, a.name, a.around, a.ctx, a.conforms)
}

func TestNothingGivenIsChanged(t *testing.T) {
	for _, x := range given() {
		was := x.behind.copied()
		x.hold(t)
		if !x.behind.equal(was) {
			t.Errorf("%s: what was given was changed: %v was %v", x.name, x.behind, was)
		}
	}
}

// roomy is a list with room behind it, in which marks stand.
func roomy(l []api.Term) []api.Term {
	l = slices.Concat(l, times(70, con(77)))[:len(l)]
	for i := range l {
		l[i].Args = roomy(l[i].Args)
	}
	return l
}

func marked(l []api.Term) bool {
	for _, x := range l[len(l):cap(l)][:70] {
		if !equal(x, con(77)) {
			return false
		}
	}
	return !slices.ContainsFunc(l, func(x api.Term) bool { return !marked(x.Args) })
}

func (b behind) roomy() behind {
	b = b.copied()
	b.around, b.ctx = roomy(b.around), roomy(b.ctx)
	for i := range b.sig {
		b.sig[i].T.Args = roomy(b.sig[i].T.Args)
	}
	for i, m := range b.metas {
		b.metas[i].Ctx, b.metas[i].T.Args = roomy(m.Ctx), roomy(m.T.Args)
	}
	b.sig = slices.Concat(b.sig, slices.Repeat([]api.Decl{{Name: "behind", T: con(77)}}, 70))[:len(b.sig)]
	b.metas = slices.Concat(b.metas, slices.Repeat([]api.MetaDecl{unknown(con(77))}, 70))[:len(b.metas)]
	return b
}

func (b behind) marked() bool {
	l := [][]api.Term{b.around, b.ctx}
	for _, d := range b.sig {
		l = append(l, d.T.Args)
	}
	for _, m := range b.metas {
		l = append(l, m.Ctx, m.T.Args)
	}
	return !slices.ContainsFunc(l, func(l []api.Term) bool { return !marked(l) }) &&
		!slices.ContainsFunc(b.sig[len(b.sig):][:70], func(d api.Decl) bool { return d.Name != "behind" || !equal(d.T, con(77)) }) &&
		!slices.ContainsFunc(b.metas[len(b.metas):][:70], func(m api.MetaDecl) bool { return m.Ctx != nil || !equal(m.T, con(77)) })
}

// Entries are put behind no list that was handed in, though that has room.
func TestRoomBehindAList(t *testing.T) {
	for _, x := range given() {
		x.behind = x.behind.roomy()
		was := x.behind.copied()
		x.hold(t)
		if !x.behind.marked() {
			t.Errorf("%s: what lies behind a given list was changed", x.name)
		}
		if !x.behind.equal(was) {
			t.Errorf("%s: what was given was changed", x.name)
		}
	}
}

// The lists that are handed in may be pieces of one: the context lies in the room behind the one around, in another order.
func TestListsThatShareRoom(t *testing.T) {
	for range 10 {
		l := list(vec(vari(0)), nat, tm, nat, vec(vari(1)))
		was := copiedList(l)
		for _, x := range []struct {
			around, ctx []api.Term
			e           api.Errno
		}{
			{l[1:2], l[2:5], api.ErrType}, {l[1:2], l[0:1], api.OK}, {l[1:2], l[0:3], api.OK}, {l[1:4], l[0:4], api.OK}, {l[1:4], l[0:5], api.ErrType},
			{l[2:3], l[0:1], api.ErrType}, {l[1:3], l[4:5], api.OK}, {l[1:2], l[3:5], api.OK}, {l[:0], l[:1], api.ErrScope},
		} {
			holdCtx(t, "pieces of one list", in(x.ctx...).near(x.around...), x.e)
			holdConforms(t, "pieces of one list", x.ctx, x.ctx[:1], true)
		}
		if !slices.EqualFunc(l, was, equal) {
			t.Fatalf("%v was %v", l, was)
		}
	}
}

// R5: nothing hangs on what was asked before.
func TestTheSameEachTime(t *testing.T) {
	l := given()
	for range 50 {
		for _, x := range l {
			x.hold(t)
		}
		slices.Reverse(l)
	}
}

// A list that was asked of may become another one: what is told then is of that.
func TestAListThatBecomesAnotherOne(t *testing.T) {
	sig, ctx := system(), list(nat, vec(vari(0)))
	holdSig(t, "at first", sig, right)
	holdCtx(t, "at first", in(ctx...), api.OK)
	holdConforms(t, "at first", ctx, list(nat), true)
	sig[succC].T, ctx[0] = fam(99), tm
	holdSig(t, "then", sig, place{succC, api.ErrScope})
	holdCtx(t, "then", in(ctx...), api.ErrType)
	holdConforms(t, "then", ctx, list(nat), false)
	sig[succC].T, ctx[0] = pi(nat, nat), nat
	holdSig(t, "in the end", sig, right)
	holdCtx(t, "in the end", in(ctx...), api.OK)
}

// Calls at the same time, over the same lists, do not meet.
func TestCallsAtTheSameTime(t *testing.T) {
	l := given()
	for i := range l {
		l[i].behind = l[i].behind.roomy()
	}
	done := make(chan bool)
	for range 8 {
		go func() {
			fine := true
			for range 20 {
				for _, x := range l {
					at, e := world.Sig(x.sig)
					fine = fine && place{at, e} == x.sigs && x.tell() == x.ctxs && world.Schema(x.sig, x.ctx) == x.schemas && world.Conforms(x.around, x.ctx) == x.conforms
				}
			}
			done <- fine
		}()
	}
	for range 8 {
		if !<-done {
			t.Error("not as alone")
		}
	}
}
