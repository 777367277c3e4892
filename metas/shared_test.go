package metas_test

import (
	"slices"
	"testing"

	"amanuensis/api"
	"amanuensis/metas"
)

// R3

func copied(t api.Term) api.Term {
	return node(t.Kind, t.Head, copiedList(t.Args)...)
}

func copiedList(l []api.Term) []api.Term {
	l = slices.Clone(l)
	for i := range l {
		l[i] = copied(l[i])
	}
	return l
}

func copiedSig(sig []api.Decl) []api.Decl {
	sig = slices.Clone(sig)
	for i := range sig {
		sig[i].T = copied(sig[i].T)
	}
	return sig
}

func copiedMetas(l []api.MetaDecl) []api.MetaDecl {
	l = slices.Clone(l)
	for i, m := range l {
		l[i].Ctx, l[i].T = copiedList(m.Ctx), copied(m.T)
	}
	return l
}

func (x terms) copied() terms {
	return terms{copiedSig(x.sig), copiedMetas(x.metas), copiedList(x.ext), copiedMetas(x.delta), copiedList(x.theta)}
}

func equalDecl(a, b api.Decl) bool { return a.Name == b.Name && equal(a.T, b.T) }

func equalMeta(a, b api.MetaDecl) bool {
	return slices.EqualFunc(a.Ctx, b.Ctx, equal) && equal(a.T, b.T) && a.Param == b.Param
}

func (x terms) equal(y terms) bool {
	return slices.EqualFunc(x.sig, y.sig, equalDecl) && slices.EqualFunc(x.metas, y.metas, equalMeta) && slices.EqualFunc(x.ext, y.ext, equal) &&
		slices.EqualFunc(x.delta, y.delta, equalMeta) && slices.EqualFunc(x.theta, y.theta, equal)
}

// asked is something that is asked of all calls, of both lists of metas, and what they tell.
type asked struct {
	name string
	terms
	metasAre, deltaIs place
	subs              api.Errno
	sizes             []int
	params            []bool
}

// given are things of all sorts, made anew each time: right ones and wrong ones.
func given() []asked {
	rows := func() []api.MetaDecl {
		return some(unknown(nat, nat, tm), param(nat), unknown(vec(hole(0, zero, self)), vec(hole(1)), pi(nat, vec(hole(1)))))
	}
	three, noYesNo := []int{2, 0, 2}, []bool{false, true, false}
	around := func() []api.Term { return list(nat, vec(hole(4)), pi(nat, nat)) }
	sub := func(over, delta []api.MetaDecl, ext []api.Term, theta ...api.Term) terms {
		return put(copiedMetas(delta), copiedList(theta)...).with(copiedMetas(over)...).behind(copiedList(ext)...)
	}
	ill := sub(known(), rows(), around(), vari(1), vari(2), none)
	ill.sig[vecF].T = pi(nat, pi(tm, fam(99)))
	many := slices.Repeat(rows(), 14)
	wrong := rows()
	wrong[1].T = pi(nat, nat)
	return []asked{
		{"nothing", terms{}, right, right, api.OK, nil, nil},
		{"what fits", sub(known(), rows(), around(), vari(1), vari(2), none), right, right, api.OK, three, noYesNo},
		{"rows that fit", sub(known(), rows(), around(), zero, vari(2), none), right, right, api.OK, three, noYesNo},
		{"a function that fits", sub(known(), rows(), around(), succ(vari(1)), vari(2), next(vari(4), vari(2, zero), vari(1))), right, right, api.ErrType, three, noYesNo},
		{"one more that fits", sub(known(), rows(), around(), one, vari(2), next(zero, vari(2, hole(0)), none)), right, right, api.OK, three, noYesNo},
		{"no variable", sub(known(), rows(), around(), zero, zero, none), right, right, api.ErrType, three, noYesNo},
		{"no such", sub(known(), rows(), nil, zero, vari(2), none), right, right, api.ErrScope, three, noYesNo},
		{"too few", sub(known(), rows(), around(), zero, vari(2)), right, right, api.ErrType, three, noYesNo},
		{"wrong metas", sub(wrong, wrong, around(), zero, vari(2), none), place{1, api.ErrArg}, place{1, api.ErrArg}, api.ErrType, three, noYesNo},
		{"a meta that is too great", sub(rows(), some(param(nat), unknown(nat, times(41, nat)...)), around(), vari(2), vari(40)), right, place{1, api.ErrLimit}, api.OK, []int{0, 41}, []bool{true, false}},
		{"a wrong signature", ill, place{4, api.ErrScope}, place{2, api.ErrScope}, api.OK, three, noYesNo},
		{"what may not be", sub(known(), rows(), list(nat, con(-1), nat), zero, vari(2), none), right, right, api.ErrArg, three, noYesNo},
		{"many", sub(many, many, around(), times(42, vari(2))...), place{0, api.ErrLimit}, place{0, api.ErrLimit}, api.ErrLimit, metas.Sizes(many), metas.Params(many)},
	}
}

func (a asked) fine() bool {
	i, e := metas.Decls(a.sig, a.metas)
	j, f := metas.Decls(a.sig, a.delta)
	return place{i, e} == a.metasAre && place{j, f} == a.deltaIs && a.tell() == a.subs &&
		slices.Equal(metas.Sizes(a.delta), a.sizes) && slices.Equal(metas.Params(a.delta), a.params)
}

func (a asked) hold(t *testing.T) {
	t.Helper()
	holdDecls(t, a.name, a.sig, a.metas, a.metasAre)
	holdDecls(t, a.name, a.sig, a.delta, a.deltaIs)
	holdSub(t, a.name, a.terms, a.subs)
	if sizes := metas.Sizes(a.delta); !slices.Equal(sizes, a.sizes) {
		t.Errorf("%s: sizes %v", a.name, sizes)
	}
	if params := metas.Params(a.delta); !slices.Equal(params, a.params) {
		t.Errorf("%s: Params %v", a.name, params)
	}
}

func TestNothingGivenIsChanged(t *testing.T) {
	for _, x := range given() {
		was := x.terms.copied()
		x.hold(t)
		if !x.terms.equal(was) {
			t.Errorf("%s: what was given was changed: %v was %v", x.name, x.terms, was)
		}
	}
}

// roomy is a list with room behind it, in which marks stand.
func roomy(l []api.Term) []api.Term {
	l = slices.Concat(l, times(70, con(77)))[:len(l)]
	for i := range l {
		l[i].Args = roomy(l[i].Args)
	}
	return l
}

func marked(l []api.Term) bool {
	for _, x := range l[len(l):cap(l)][:70] {
		if !equal(x, con(77)) {
			return false
		}
	}
	return !slices.ContainsFunc(l, func(x api.Term) bool { return !marked(x.Args) })
}

func roomyMetas(l []api.MetaDecl) []api.MetaDecl {
	l = slices.Concat(l, slices.Repeat(some(unknown(con(77))), 70))[:len(l)]
	for i, m := range l {
		l[i].Ctx, l[i].T.Args = roomy(m.Ctx), roomy(m.T.Args)
	}
	return l
}

func markedMetas(l []api.MetaDecl) bool {
	for _, m := range l {
		if !marked(m.Ctx) || !marked(m.T.Args) {
			return false
		}
	}
	return !slices.ContainsFunc(l[len(l):][:70], func(m api.MetaDecl) bool { return m.Ctx != nil || !equal(m.T, con(77)) })
}

func (x terms) roomy() terms {
	x = terms{copiedSig(x.sig), roomyMetas(x.metas), roomy(copiedList(x.ext)), roomyMetas(x.delta), roomy(copiedList(x.theta))}
	for i := range x.sig {
		x.sig[i].T.Args = roomy(x.sig[i].T.Args)
	}
	x.sig = slices.Concat(x.sig, slices.Repeat([]api.Decl{{Name: "behind", T: con(77)}}, 70))[:len(x.sig)]
	return x
}

func (x terms) marked() bool {
	for _, d := range x.sig {
		if !marked(d.T.Args) {
			return false
		}
	}
	return markedMetas(x.metas) && marked(x.ext) && markedMetas(x.delta) && marked(x.theta) &&
		!slices.ContainsFunc(x.sig[len(x.sig):][:70], func(d api.Decl) bool { return d.Name != "behind" || !equal(d.T, con(77)) })
}

// Nothing is put behind a list that was handed in, though that has room.
func TestRoomBehindAList(t *testing.T) {
	for _, x := range given() {
		x.terms = x.terms.roomy()
		was := x.terms.copied()
		x.hold(t)
		if !x.terms.marked() {
			t.Errorf("%s: what lies behind a given list was changed", x.name)
		}
		if !x.terms.equal(was) {
			t.Errorf("%s: what was given was changed", x.name)
		}
	}
}

// The lists that are handed in may be pieces of one: entries lie in the room behind those around, and are terms as well.
func TestListsThatShareRoom(t *testing.T) {
	l := list(nat, tm, nat, vec(vari(0)), nat, zero, one, none)
	was := copiedList(l)
	for range 5 {
		for _, r := range []struct {
			ext, ctx, theta []api.Term
			e               api.Errno
		}{
			{l[:1], l[1:3], l[5:6], api.OK}, {l[:1], l[1:3], l[7:8], api.ErrType}, {l[:0], l[:5], l[6:7], api.OK},
			{l[:3], l[3:5], l[0:1], api.ErrType}, {l[:5], l[:5], l[5:6], api.OK}, {l[2:3], l[3:4], l[4:6], api.ErrType},
		} {
			x := put(some(unknown(nat, r.ctx...)), r.theta...).behind(r.ext...)
			holdSub(t, "pieces of one list", x, r.e)
		}
		both := known()
		holdSub(t, "the same metas", terms{sig: system(), metas: both, delta: both[:2], theta: list(hole(0), hole(1, vari(0)))}, api.OK)
		holdSub(t, "pieces of the same metas", terms{sig: system(), metas: both[1:2], delta: both[:1], theta: list(hole(0, zero))}, api.OK)
		if !slices.EqualFunc(l, was, equal) || !slices.EqualFunc(both, known(), equalMeta) {
			t.Fatalf("%v was %v", l, was)
		}
	}
}

// What Sizes and Params answer is the caller's own: each time another list, which is of nothing that was handed in.
func TestAnswersAreTheCallersOwn(t *testing.T) {
	l := known()
	sizes, params := metas.Sizes(l), metas.Params(l)
	wantSizes, wantParams := []int{0, 1, 0, 2, 0, 0}, []bool{false, false, true, false, false, true}
	again, paramsAgain := metas.Sizes(l), metas.Params(l)
	for i := range again {
		again[i], paramsAgain[i] = 99, !paramsAgain[i]
	}
	_, _ = append(again[:3], 7, 7), append(paramsAgain[:3], true, true)
	if !slices.Equal(sizes, wantSizes) || !slices.Equal(params, wantParams) || !slices.EqualFunc(l, known(), equalMeta) {
		t.Fatalf("%v, %v, of %v", sizes, params, l)
	}
	for i := range l {
		l[i] = api.MetaDecl{Ctx: times(9, nat), Param: i%2 == 0}
	}
	if !slices.Equal(sizes, wantSizes) || !slices.Equal(params, wantParams) {
		t.Fatalf("%v, %v, though of others", sizes, params)
	}
	if sizes, params = metas.Sizes(l[:2]), metas.Params(l[:2]); !slices.Equal(sizes, []int{9, 9}) || !slices.Equal(params, []bool{true, false}) {
		t.Fatalf("%v, %v, of other metas", sizes, params)
	}
}

// R5: nothing hangs on what was asked before.
func TestTheSameEachTime(t *testing.T) {
	l := given()
	for range 30 {
		for _, x := range l {
			x.hold(t)
		}
		slices.Reverse(l)
	}
}

// A list that was asked of may become another one: what is told then is of that.
func TestAListThatBecomesAnotherOne(t *testing.T) {
	x := put(some(unknown(nat), unknown(vec(hole(0)))), zero, none)
	holdDecls(t, "at first", x.sig, x.delta, right)
	holdSub(t, "at first", x, api.OK)
	x.theta[0], x.delta[1].T = one, vec(hole(1))
	holdDecls(t, "then", x.sig, x.delta, place{1, api.ErrScope})
	holdSub(t, "then", x, api.ErrScope)
	x.delta[1].T = vec(hole(0))
	holdDecls(t, "and then", x.sig, x.delta, right)
	holdSub(t, "and then", x, api.ErrType)
	x.sig[noneC].T = vec(one)
	holdSub(t, "in the end", x, api.OK)
}

// Calls at the same time, over the same lists, do not meet.
func TestCallsAtTheSameTime(t *testing.T) {
	l := given()
	for i := range l {
		l[i].terms = l[i].terms.roomy()
	}
	done := make(chan bool)
	for range 8 {
		go func() {
			fine := true
			for range 20 {
				for _, x := range l {
					fine = fine && x.fine()
				}
			}
			done <- fine
		}()
	}
	for range 8 {
		if !<-done {
			t.Error("not as alone")
		}
	}
}
