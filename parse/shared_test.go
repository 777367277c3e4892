package parse_test

import (
	"slices"
	"testing"

	"amanuensis/api"
	"amanuensis/parse"
)

// R3

const sample = system + "f: {x: nat}{y: le x x}[u] u x (y u) ([x] x y) (type). % a note"

const sampleTerm = "{x: nat} le x (s (s x)) ([y] x y y) (type) z"

func sampled() []api.Decl {
	f := pi(fam(0), pi(fam(3, vari(0), vari(0)), lam(vari(0, vari(2), vari(1, vari(0)), lam(vari(0, vari(2))), sort))))
	return append(systemSig(), decl("f", f))
}

func sampledTerm() api.Term {
	return pi(fam(0), fam(3, vari(0), con(2, con(2, vari(0))), lam(vari(1, vari(0), vari(0))), sort, con(1)))
}

func fill(b []byte, c byte) {
	for i := range b {
		b[i] = c
	}
}

// scribble changes each node of a term, and what lies behind the ends of its lists.
func scribble(t *api.Term) {
	t.Kind, t.Head = 77, 77
	l := t.Args[:cap(t.Args)]
	for i := range l {
		scribble(&l[i])
	}
}

func scribbleDecls(l []api.Decl) {
	l = l[:cap(l)]
	for i := range l {
		l[i].Name = "changed"
		scribble(&l[i].T)
	}
}

func own(t api.Term) api.Term {
	x := node(t.Kind, t.Head)
	for _, a := range t.Args {
		x.Args = append(x.Args, own(a))
	}
	return x
}

func ownDecls(l []api.Decl) []api.Decl {
	var o []api.Decl
	for _, d := range l {
		o = append(o, decl(d.Name, own(d.T)))
	}
	return o
}

func TestAChangedTextChangesNothing(t *testing.T) {
	b := []byte(sample)
	l, e := parse.Decls(b)
	fill(b, '-')
	if e != api.OK || !equalDecls(l, sampled()) {
		t.Errorf("%v, %d", l, e)
	}
	b = []byte(sampleTerm)
	x, e := parse.Term(b, systemSig())
	fill(b, '-')
	if e != api.OK || !equal(x, sampledTerm()) {
		t.Errorf("%v, %d", x, e)
	}
}

func TestChangedAnswersChangeNothing(t *testing.T) {
	b := []byte(sample)
	l, _ := parse.Decls(b)
	scribbleDecls(l)
	if string(b) != sample {
		t.Errorf("%q", b)
	}
	hold(t, sample, sampled()...)
	ahead := systemSig()
	x, _ := parse.Term([]byte(sampleTerm), ahead)
	scribble(&x)
	if !equalDecls(ahead, systemSig()) {
		t.Errorf("a change to a term is seen in the declarations: %v", ahead)
	}
	over(t, sampleTerm, ahead, sampledTerm())
	scribbleDecls(ahead)
	over(t, sampleTerm, systemSig(), sampledTerm())
}

func TestChangedDeclarationsChangeNoTerm(t *testing.T) {
	ahead := ownDecls(systemSig())
	x, e := parse.Term([]byte(sampleTerm), ahead)
	scribbleDecls(ahead)
	if e != api.OK || !equal(x, sampledTerm()) {
		t.Errorf("%v, %d", x, e)
	}
}

// No two lists of an answer share any room: a change to one node is seen in that node alone, and what is hung behind one list in no other one.
func TestAnswersShareNothingWithinThem(t *testing.T) {
	l, _ := parse.Decls([]byte(sample))
	want := sampled()
	for i := range l {
		holdApart(t, &l[i].T, func() bool { return equalDecls(l, want) })
	}
	x, _ := parse.Term([]byte(sampleTerm), systemSig())
	wanted := sampledTerm()
	holdApart(t, &x, func() bool { return equal(x, wanted) })
	for i := range l {
		scribble(&l[i].T)
		if !equalDecls(l[i+1:], want[i+1:]) {
			t.Errorf("a change to the declaration %d is seen in another one", i)
		}
	}
}

// holdApart changes what lies behind each list of a term, and asks whether all is as it was.
func holdApart(t *testing.T, x *api.Term, asItWas func() bool) {
	t.Helper()
	behind := x.Args[len(x.Args):cap(x.Args)]
	for i := range behind {
		behind[i] = node(77, 77)
	}
	if !asItWas() {
		t.Errorf("what lies behind the list of %v is in another one", *x)
	}
	was := x.Head
	x.Head = 77
	if asItWas() {
		t.Error("a change is not seen")
	}
	x.Head = was
	if !asItWas() {
		t.Errorf("%v is in another list", *x)
	}
	for i := range x.Args {
		holdApart(t, &x.Args[i], asItWas)
	}
}

func TestNothingGivenIsChanged(t *testing.T) {
	for _, s := range []string{"", sample, sampleTerm, "a-b", "q", "a: q.", "a: type type.", ")", tooNested(), tooDeep(), tooLarge(), many(41), "[x", repeat("a", 20001)} {
		room := append([]byte(s), "behind"...)
		parse.Decls(room[:len(s)])
		decls := append(systemSig(), decl("be", con(1)), decl("hind", con(2)))
		parse.Term(room[:len(s)], decls[:5])
		if string(room) != s+"behind" {
			t.Errorf("%q, or what lies behind it, was changed", short(s))
		}
		if !equalDecls(decls, append(systemSig(), decl("be", con(1)), decl("hind", con(2)))) {
			t.Errorf("%q: the declarations, or what lies behind them, were changed to %v", short(s), decls)
		}
	}
}

// What lies behind a text, or behind declarations, is not read.
func TestRoomBehindWhatIsGiven(t *testing.T) {
	for n := range len(sample) + 1 {
		all := []byte(sample)
		l, e := parse.Decls(all[:n])
		alone, wrong := parse.Decls(slices.Clip([]byte(sample[:n])))
		if e != wrong || !equalDecls(l, alone) {
			t.Errorf("%d bytes: %v, %d, not %v, %d", n, l, e, alone, wrong)
		}
	}
	decls := systemSig()
	refuseOver(t, "le z z", decls[:3], api.ErrScope)
	over(t, "le z z", decls[:4], fam(3, con(1), con(1)))
}

// R5: nothing hangs on what was asked before.
func TestTheSameEachTime(t *testing.T) {
	for range 300 {
		hold(t, sample, sampled()...)
		hold(t, "z: type. nat: z.", decl("z", sort), decl("nat", fam(0)))
		refuse(t, "a: nat.", api.ErrScope)
		refuse(t, "a: type. a: type.", api.ErrSyntax)
		hold(t, "a: type.", decl("a", sort))
		over(t, sampleTerm, systemSig(), sampledTerm())
		refuseOver(t, sampleTerm, nil, api.ErrScope)
		refuseOver(t, "x", systemSig(), api.ErrScope)
		over(t, "z", sig(decl("z", sort)), fam(0))
		holdName(t, "nat", true)
		holdName(t, "type", false)
	}
}

// Calls at the same time do not meet.
func TestCallsAtTheSameTime(t *testing.T) {
	b, text, ahead := []byte(sample), []byte(sampleTerm), systemSig()
	done := make(chan bool)
	for range 8 {
		go func() {
			same := true
			for range 100 {
				l, e := parse.Decls(b)
				x, wrong := parse.Term(text, ahead)
				same = same && e == api.OK && wrong == api.OK && equalDecls(l, sampled()) && equal(x, sampledTerm()) && parse.Name("a")
			}
			done <- same
		}()
	}
	for range 8 {
		if !<-done {
			t.Error("not as alone")
		}
	}
}
