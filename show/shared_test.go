package show_test

import (
	"bytes"
	"slices"
	"testing"

	"amanuensis/api"
	"amanuensis/show"
)

// R3

// sampled is a term over the system, and sampleText its text.
func sampled() api.Term {
	return pi(fam(0), fam(3, vari(0), con(2, con(2, vari(0))), lam(vari(1, vari(0), vari(0))), sort, con(1)))
}

const sampleText = "{_0:nat}le _0(s(s _0))([_1]_0 _1 _1)(type)z"

func sampledSig() []api.Decl { return append(system(), decl("new", sampled())) }

const sampleSigText = systemText + "new : " + sampleText + ".\n"

func own(t api.Term) api.Term {
	x := node(t.Kind, t.Head)
	for _, a := range t.Args {
		x.Args = append(x.Args, own(a))
	}
	return x
}

func ownDecls(l []api.Decl) []api.Decl {
	var o []api.Decl
	for _, d := range l {
		o = append(o, decl(d.Name, own(d.T)))
	}
	return o
}

// scribble changes each node of a term, and what lies behind the ends of its lists.
func scribble(t *api.Term) {
	t.Kind, t.Head = 77, 77
	l := t.Args[:cap(t.Args)]
	for i := range l {
		scribble(&l[i])
	}
}

func scribbleDecls(l []api.Decl) {
	l = l[:cap(l)]
	for i := range l {
		l[i].Name = "changed"
		scribble(&l[i].T)
	}
}

func scribbleText(b []byte) {
	b = b[:cap(b)]
	for i := range b {
		b[i] = '-'
	}
}

func TestChangedArgumentsChangeNoText(t *testing.T) {
	x, l := own(sampled()), ownDecls(sampledSig())
	b, e := show.Term(x, l)
	all, wrong := show.Decls(l)
	scribble(&x)
	scribbleDecls(l)
	if e != api.OK || string(b) != sampleText {
		t.Errorf("%q, %d", b, e)
	}
	if wrong != api.OK || string(all) != sampleSigText {
		t.Errorf("%q, %d", all, wrong)
	}
}

func TestAChangedTextChangesNothing(t *testing.T) {
	x, l := sampled(), sampledSig()
	for range 3 {
		b, e := show.Term(x, l)
		if e != api.OK || string(b) != sampleText {
			t.Errorf("%q, %d", b, e)
		}
		scribbleText(b)
		all, e := show.Decls(l)
		if e != api.OK || string(all) != sampleSigText {
			t.Errorf("%q, %d", all, e)
		}
		scribbleText(all)
	}
	// A name alone is a text of its own too.
	b, _ := show.Term(con(1), l)
	scribbleText(b)
	b, _ = show.Term(sort, l)
	scribbleText(b)
	if !equal(x, sampled()) || !equalDecls(l, sampledSig()) {
		t.Errorf("a change to a text is seen in %v, or in %v", x, l)
	}
	over(t, sort, l, "type")
	over(t, con(1), l, "z")
}

// No two answers share any room.
func TestAnswersAreApart(t *testing.T) {
	first, _ := show.Term(sampled(), system())
	second, _ := show.Term(sampled(), system())
	all, _ := show.Decls(sampledSig())
	_ = append(first, "behind"...)
	scribbleText(first)
	if string(second) != sampleText || string(all) != sampleSigText {
		t.Errorf("a change to a text is seen in %q, or in %q", second, all)
	}
	again, _ := show.Decls(sampledSig())
	scribbleText(all)
	if string(again) != sampleSigText || string(second) != sampleText {
		t.Errorf("a change to a text is seen in %q, or in %q", again, second)
	}
}

// withRoom is a term each list of which has room behind it, and what is there.
func withRoom(t api.Term) api.Term {
	args := make([]api.Term, 0, len(t.Args)+2)
	for _, a := range t.Args {
		args = append(args, withRoom(a))
	}
	copy(args[len(args):cap(args)], []api.Term{node(88, 88), node(99, 99, sort)})
	return node(t.Kind, t.Head, args...)
}

// roomy tells whether each list of a term still has what withRoom put behind it.
func roomy(t api.Term) bool {
	behind := t.Args[len(t.Args):cap(t.Args)]
	return slices.EqualFunc(behind, []api.Term{node(88, 88), node(99, 99, sort)}, equal) && !slices.ContainsFunc(t.Args, func(a api.Term) bool { return !roomy(a) })
}

func TestNothingGivenIsChanged(t *testing.T) {
	terms := []api.Term{sampled(), sort, con(1), con(9), vari(0), met(0, con(1)), node(-1, 3, sort), lam(lam(vari(2))), node(api.Pi, 0, sort), lams(60, sort), con(2, slices.Repeat([]api.Term{con(1)}, 4000)...), pi(sampled(), sampled()), con(2, lam(vari(0)), met(0))}
	for _, x := range terms {
		given := withRoom(x)
		room := append(ownDecls(system()), decl("new", withRoom(x)), decl("be", con(1)), decl("hind", con(2)))
		want := append(system(), decl("new", x), decl("be", con(1)), decl("hind", con(2)))
		for n := range len(room) + 1 {
			show.Term(given, room[:n])
			show.Decls(room[:n])
			if !equal(given, x) || !roomy(given) {
				t.Errorf("%s, or what lies behind its lists, was changed", short(spell(x)))
			}
			if !equalDecls(room, want) || !roomy(room[5].T) {
				t.Errorf("%s: the declarations, or what lies behind them, were changed", short(spell(x)))
			}
		}
	}
	for _, name := range []string{"", "_", "z", "type", "a b"} {
		l := append(system(), decl(name, sampled()), decl("behind", con(0)))
		show.Decls(l[:6])
		if !equalDecls(l, append(system(), decl(name, sampled()), decl("behind", con(0)))) {
			t.Errorf("%q: the declarations, or what lies behind them, were changed", name)
		}
	}
}

// What lies behind declarations, or behind Args, is not looked at.
func TestRoomBehindWhatIsGiven(t *testing.T) {
	l := system()
	refuseOver(t, con(3), l[:3], api.ErrScope)
	over(t, con(3), l[:4], "le")
	twice := append(system(), decl("z", vari(0)))
	holdDecls(t, twice[:5], systemText)
	holdDecls(t, twice[:2], "nat : type.\nz : nat.\n")
	refuseDecls(t, append(system()[:2], decl("new", con(4)), decl("le", sort), decl("r", sort))[:3], api.ErrScope)
	args := []api.Term{con(1), con(1), met(0)}
	over(t, con(2, args[:2]...), l, "s z z")
	over(t, con(2, args[:0]...), l, "s")
	over(t, con(2, con(2, args[:0]...)), l, "s s")
}

// The same nodes may stand at many places.
func TestNodesThatAreShared(t *testing.T) {
	args := []api.Term{con(1), vari(0)}
	x := con(2, args...)
	x = fam(3, x, x, lam(con(2, args...)))
	over(t, lam(x), system(), "[_0]le(s z _0)(s z _0)([_1]s z _1)")
	body := lam(vari(1))
	over(t, lam(pi(body, body)), system(), "[_0]{_1:[_1]_0}[_2]_1")
	if !equal(con(2, args...), con(2, con(1), vari(0))) {
		t.Error(args)
	}
}

// R5: nothing hangs on what was asked before.
func TestTheSameEachTime(t *testing.T) {
	for range 300 {
		hold(t, sampled(), sampleText)
		holdDecls(t, sampledSig(), sampleSigText)
		refuse(t, con(2, vari(0)), api.ErrScope)
		refuse(t, con(2, node(-1, 0)), api.ErrArg)
		refuseDecls(t, append(sampledSig(), decl("z", sort)), api.ErrArg)
		holdDecls(t, sig(decl("z", sort)), "z : type.\n")
		holdDecls(t, nil, "")
		over(t, con(0), sig(decl("x", sort)), "x")
	}
}

// Calls at the same time do not meet.
func TestCallsAtTheSameTime(t *testing.T) {
	x, l := sampled(), sampledSig()
	done := make(chan bool)
	for range 8 {
		go func() {
			same := true
			for range 100 {
				b, e := show.Term(x, l)
				all, wrong := show.Decls(l)
				same = same && e == api.OK && wrong == api.OK && string(b) == sampleText && bytes.Equal(all, []byte(sampleSigText))
			}
			done <- same
		}()
	}
	for range 8 {
		if !<-done {
			t.Error("not as alone")
		}
	}
}
