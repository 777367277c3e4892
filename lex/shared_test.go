package lex_test

import (
	"slices"
	"strings"
	"testing"

	"amanuensis/api"
	"amanuensis/lex"
)

// R3

const sample = "s: {_:nat}nat. % a (note\n\tz'0 q"

func sampled() []api.Tok {
	return toks("s", ":", "{", "_", ":", "nat", "}", "nat", ".", "z'0", "q")
}

func fill(b []byte, c byte) {
	for i := range b {
		b[i] = c
	}
}

// scribble changes each token, and what lies behind the list's end.
func scribble(l []api.Tok) {
	l = l[:cap(l)]
	for i := range l {
		l[i] = api.Tok{Kind: 7, Text: "changed"}
	}
}

func TestAChangedTextChangesNoTokens(t *testing.T) {
	b := []byte(sample)
	l, e := lex.Tokens(b)
	fill(b, '-')
	if e != api.OK || !slices.Equal(l, sampled()) {
		t.Errorf("%v, %d", l, e)
	}
}

func TestChangedTokensChangeNoText(t *testing.T) {
	b := []byte(sample)
	l, _ := lex.Tokens(b)
	scribble(l)
	if string(b) != sample {
		t.Errorf("%q", b)
	}
	if l, e := lex.Tokens(b); e != api.OK || !slices.Equal(l, sampled()) {
		t.Errorf("%v, %d", l, e)
	}
}

func TestTextAndItsTokensShareNothing(t *testing.T) {
	l := sampled()
	b := lex.Text(l)
	want := string(b)
	scribble(l)
	if string(b) != want {
		t.Errorf("a change to the tokens is seen in the text: %q", b)
	}
	l = sampled()
	b = lex.Text(l)
	fill(b[:cap(b)], '-')
	if !slices.Equal(l, sampled()) {
		t.Errorf("a change to the text is seen in the tokens: %v", l)
	}
	if got := string(lex.Text(l)); got != want {
		t.Errorf("a change to a text is seen in the next one: %q", got)
	}
}

// Also of one token alone, whose text might be handed on as it is.
func TestTheTextOfOneTokenIsTheCallersOwn(t *testing.T) {
	l := list(name(strings.Clone("nat")))
	fill(lex.Text(l), '-')
	if l[0].Text != "nat" {
		t.Errorf("%v", l)
	}
	holdText(t, "nat", l...)
}

func TestNothingGivenIsChanged(t *testing.T) {
	for _, s := range []string{"", sample, "a-b", "\r", "%", "a%\n", "\xff", strings.Repeat("a", 20001)} {
		room := append([]byte(s), "behind"...)
		lex.Tokens(room[:len(s)])
		if string(room) != s+"behind" {
			t.Errorf("%q, or what lies behind it, was changed", short(s))
		}
	}
	room := append(sampled(), toks("be", "hind")...)
	was := slices.Clone(room)
	for n := range len(room) + 1 {
		lex.Text(room[:n])
		if !slices.Equal(room, was) {
			t.Fatalf("of %v, and what lies behind it, %v was made", was, room)
		}
	}
}

// What lies behind a text is not read.
func TestRoomBehindAText(t *testing.T) {
	for n := range len(sample) + 1 {
		all := []byte(sample)
		l, e := lex.Tokens(all[:n])
		alone, wrong := lex.Tokens(slices.Clip([]byte(sample[:n])))
		if e != wrong || !slices.Equal(l, alone) {
			t.Errorf("%d bytes: %v, %d, not %v, %d", n, l, e, alone, wrong)
		}
	}
}

// R5: nothing hangs on what was asked before.
func TestTheSameEachTime(t *testing.T) {
	l := sampled()
	for range 1000 {
		hold(t, "a % b", "a")
		refuse(t, "a % b\n-", api.ErrSyntax)
		refuse(t, strings.Repeat(" ", 20001), api.ErrLimit)
		hold(t, "b", "b")
		holdText(t, "s:{_:nat}nat.z'0 q", l...)
		holdText(t, "")
	}
}

// Calls at the same time do not meet.
func TestCallsAtTheSameTime(t *testing.T) {
	b, l := []byte(sample), sampled()
	done := make(chan bool)
	for range 8 {
		go func() {
			same := true
			for range 100 {
				got, e := lex.Tokens(b)
				same = same && e == api.OK && slices.Equal(got, l) && string(lex.Text(l)) == "s:{_:nat}nat.z'0 q"
			}
			done <- same
		}()
	}
	for range 8 {
		if !<-done {
			t.Error("not as alone")
		}
	}
}
