package lex_test

import (
	"strings"
	"testing"
	"unicode/utf8"

	"amanuensis/api"
	"amanuensis/lex"
)

// P13.1: more than 20000 bytes.

func TestTheGreatestText(t *testing.T) {
	for _, s := range []string{"a", "(", " ", "\n", "%", "% ", "a ", "a:", "%a\n", "a(b) [c]\n\t%\n"} {
		long := strings.Repeat(s, 20001/len(s)+1)
		if _, e := lex.Tokens([]byte(long[:20000])); e != api.OK {
			t.Errorf("20000 bytes of %q: %d", s, e)
		}
		refuse(t, long[:20001], api.ErrLimit)
	}
	hold(t, strings.Repeat("a", 20000), strings.Repeat("a", 20000))
	hold(t, strings.Repeat(" ", 19999)+"a", "a")
	hold(t, "a"+strings.Repeat("\n", 19999), "a")
	hold(t, "a%"+strings.Repeat("-", 19998), "a")
	hold(t, "%"+strings.Repeat("-", 19997)+"\na", "a")
	l, e := lex.Tokens([]byte(strings.Repeat(":", 20000)))
	if e != api.OK || len(l) != 20000 {
		t.Errorf("20000 marks: %d, %d", len(l), e)
	}
	l, e = lex.Tokens([]byte(strings.Repeat("a ", 10000)))
	if e != api.OK || len(l) != 10000 {
		t.Errorf("10000 names: %d, %d", len(l), e)
	}
}

// What is too long is told ahead of what is no token, wherever that stands.
func TestTooLongAndNoToken(t *testing.T) {
	long := strings.Repeat("a", 20000)
	for _, bad := range []string{"-", "\r", "\x00", "\x80", "\u00e9", "\""} {
		refuse(t, bad+long, api.ErrLimit)
		refuse(t, long+bad, api.ErrLimit)
		refuse(t, long[:10000]+bad+long[10000:], api.ErrLimit)
		refuse(t, strings.Repeat(bad, 20001), api.ErrLimit)
		within := long[len(bad):]
		refuse(t, bad+within, api.ErrSyntax)
		refuse(t, within+bad, api.ErrSyntax)
	}
	refuse(t, strings.Repeat(" ", 20001), api.ErrLimit)
	refuse(t, "%"+strings.Repeat("-", 20000), api.ErrLimit)
	refuse(t, string(make([]byte, 20001)), api.ErrLimit)
	refuse(t, string(make([]byte, 20000)), api.ErrSyntax)
	refuse(t, strings.Repeat("a", 1<<22), api.ErrLimit)
}

// Bytes are counted, and not runes.
func TestALongTextOfRunes(t *testing.T) {
	hold(t, "%"+strings.Repeat("\u00e9", 9999))
	refuse(t, "%"+strings.Repeat("\u00e9", 10000), api.ErrLimit)
	hold(t, "a%\u2192"+strings.Repeat("\U0001d7d8", 4998)+"\n b", "a", "b")
	refuse(t, "%"+strings.Repeat("\U0001d7d8", 5000), api.ErrLimit)
}

// P13.1: anything else.

func TestWhatIsLikeASpace(t *testing.T) {
	for _, s := range []string{"\r", "\v", "\f", "\x00", "\x7f", "\b", "\x1b", "\u0085", "\u00a0", "\u1680", "\u2003", "\u2028", "\u2029", "\u200b", "\u3000", "\ufeff"} {
		refuseAround(t, s)
	}
	refuse(t, "a\r\nb", api.ErrSyntax)
}

func TestWhatIsLikeALetterOrAMark(t *testing.T) {
	for _, s := range []string{"\u00e9", "\u0131", "\u017f", "\u212a", "\u0391", "\u0430", "\u0660", "\u06f0", "\uff10", "\uff21", "\uff3f", "\u2019", "\uff07", "\uff08", "\uff1a", "\uff05", "\u3002", "\u02d0", "\U0001d7d8"} {
		refuseAround(t, s)
	}
	for _, s := range []string{"-", "+", "*", "=", "<", ">", "|", "!", "?", "$", "#", "~", "\\", "/", ",", ";", "\"", "`", "@", "&", "^"} {
		refuseAround(t, s)
	}
}

func TestBytesThatAreNoRune(t *testing.T) {
	for i := 128; i < 256; i++ {
		refuseAround(t, string([]byte{byte(i)}))
		refuseAround(t, string([]byte{byte(i), byte(i)}))
	}
	// Runes that have begun and do not end, a letter and a line feed in too many bytes, half of a pair, and what is beyond all runes.
	for _, s := range []string{"\xc3", "\xe2\x86", "\xf0\x9f\x9f", "\x86\x92", "\xc1\xa1", "\xc0\x8a", "\xe0\x80\x8a", "\xed\xa0\x80", "\xf4\x90\x80\x80", "\ufffd"} {
		if s != "\ufffd" && utf8.ValidString(s) {
			t.Fatalf("%q is a rune", s)
		}
		refuseAround(t, s)
	}
}

// Of no rune of more than one byte is a token made, whatever its last bytes, or its number's, are.
func TestEachRune(t *testing.T) {
	for c := rune(128); c <= utf8.MaxRune; c++ {
		s := string(c)
		if l, e := lex.Tokens([]byte(s)); e != api.ErrSyntax || len(l) != 0 {
			t.Fatalf("%q: %v, %d", s, l, e)
		}
		if l, e := lex.Tokens([]byte("%" + s + "\n.")); e != api.OK || len(l) != 1 || l[0] != mark(".") {
			t.Fatalf("%q in a note: %v, %d", s, l, e)
		}
	}
}

// A note of what is wrong does not make it right behind the note's line.
func TestWrongBehindANote(t *testing.T) {
	refuse(t, "% a\n-", api.ErrSyntax)
	refuse(t, "% a\n\n\u00e9 % b", api.ErrSyntax)
	refuse(t, "a - % b", api.ErrSyntax)
	refuse(t, "a % b\r c\n\r", api.ErrSyntax)
}

// What is wrong far behind what is right is no less wrong, and nothing of what is right is told.
func TestWrongFarBehind(t *testing.T) {
	right := strings.Repeat("s: {_:nat}nat. % a (note\n\tz'0 ", 600)
	if l, e := lex.Tokens([]byte(right)); e != api.OK || len(l) != 6000 {
		t.Fatalf("%d tokens, %d", len(l), e)
	}
	for _, bad := range []string{"-", "\r", "\x00", "\x7f", "\x80", "\u00e9", "a-", "- a", "% a\n\""} {
		refuse(t, right+bad, api.ErrSyntax)
		refuse(t, right[:9300]+"\n"+bad+"\n"+right[9300:], api.ErrSyntax)
	}
}

// R1: tokens that no text has.

func TestTextOfWhatNoTextHas(t *testing.T) {
	holdText(t, "", name(""))
	holdText(t, "", mark(""))
	holdText(t, " ", name(""), name(""))
	holdText(t, " a", name(""), name("a"))
	holdText(t, "a ", name("a"), name(""))
	holdText(t, "a  b", name("a"), name(""), name("b"))
	holdText(t, "ab", name("a"), mark(""), name("b"))
	holdText(t, "( )", name("("), name(")"))
	holdText(t, "ab", mark("a"), mark("b"))
	holdText(t, "a b c", name("a b"), name("c"))
	holdText(t, "\x00\xff% \u00e9\n", mark("\x00\xff"), name("%"), name("\u00e9\n"))
	for _, kind := range []int{-1, 2, 3, 1 << 40, -1 << 62} {
		other := api.Tok{Kind: kind, Text: "x"}
		holdText(t, "axb", name("a"), other, name("b"))
		holdText(t, "xx", other, other)
		holdText(t, "(x)", mark("("), other, mark(")"))
	}
}

func TestTextOfMuch(t *testing.T) {
	long := strings.Repeat("-", 1<<20)
	holdText(t, long+" "+long+"("+long, name(long), name(long), mark("("), name(long))
	l := make([]api.Tok, 1<<20)
	if b := lex.Text(l); string(b) != strings.Repeat(" ", 1<<20-1) {
		t.Errorf("%d bytes of %d names without a byte", len(b), len(l))
	}
}
