package lex_test

import (
	"slices"
	"strings"
	"testing"

	"amanuensis/api"
	"amanuensis/lex"
)

// The eight marks, and all bytes that may stand in a name, as the chapter has them.
const (
	eight   = "()[]{}:."
	letters = "abcdefghijklmnopqrstuvwxyzABCDEFGHIJKLMNOPQRSTUVWXYZ0123456789_'"
)

func name(s string) api.Tok { return api.Tok{Kind: api.TokName, Text: s} }
func mark(s string) api.Tok { return api.Tok{Kind: api.TokMark, Text: s} }

func list(l ...api.Tok) []api.Tok { return l }

// toks are tokens of these texts: the eight marks are marks, all else is names.
func toks(texts ...string) []api.Tok {
	var l []api.Tok
	for _, s := range texts {
		if len(s) == 1 && strings.Contains(eight, s) {
			l = append(l, mark(s))
		} else {
			l = append(l, name(s))
		}
	}
	return l
}

// short is what of a text is told when a test fails.
func short(s string) string {
	if len(s) > 60 {
		return s[:60] + ".."
	}
	return s
}

// hold holds the tokens of a text.
func hold(t *testing.T, s string, want ...string) {
	t.Helper()
	l, e := lex.Tokens([]byte(s))
	if e != api.OK || !slices.Equal(l, toks(want...)) {
		t.Errorf("the tokens of %q are %v, %d, not %q", short(s), l, e, want)
	}
}

// refuse holds that a text has an error, and that nothing is told beside it.
func refuse(t *testing.T, s string, want api.Errno) {
	t.Helper()
	if l, e := lex.Tokens([]byte(s)); e != want || len(l) != 0 {
		t.Errorf("the tokens of %q are %v, %d, not %d", short(s), l, e, want)
	}
}

func holdText(t *testing.T, want string, l ...api.Tok) {
	t.Helper()
	if got := string(lex.Text(l)); got != want {
		t.Errorf("the text of %v is %q, not %q", l, got, want)
	}
}

// P13.1

func TestTheChaptersExample(t *testing.T) {
	hold(t, "s: {_:nat}nat.", "s", ":", "{", "_", ":", "nat", "}", "nat", ".")
	hold(t, "nat: type. z: nat. s: {n: nat} nat.",
		"nat", ":", "type", ".", "z", ":", "nat", ".", "s", ":", "{", "n", ":", "nat", "}", "nat", ".")
	hold(t, "[x] s (s x)", "[", "x", "]", "s", "(", "s", "x", ")")
}

func TestNoTokens(t *testing.T) {
	if l, e := lex.Tokens(nil); e != api.OK || len(l) != 0 {
		t.Errorf("the tokens of nothing are %v, %d", l, e)
	}
	for _, s := range []string{"", " ", "\t", "\n", " \t\n \n\t ", "%", "%%", "% a", "%\n", "% a\n\t% b\n ", "\n\n%\n"} {
		hold(t, s)
	}
}

func TestEachMark(t *testing.T) {
	var all []string
	for i := range len(eight) {
		all = append(all, eight[i:i+1])
	}
	for _, a := range all {
		hold(t, a, a)
		hold(t, " "+a+"\n", a)
		hold(t, "a"+a+"b", "a", a, "b")
		hold(t, a+"% "+a, a)
		for _, b := range all {
			hold(t, a+b, a, b)
			hold(t, a+" "+b, a, b)
			hold(t, a+"c"+b, a, "c", b)
		}
	}
	hold(t, eight, all...)
	hold(t, eight+eight, append(all, all...)...)
}

func TestEachByteOfAName(t *testing.T) {
	if len(letters) != 26+26+10+2 {
		t.Fatal(len(letters))
	}
	for i := range len(letters) {
		c := letters[i : i+1]
		hold(t, c, c)
		hold(t, c+c, c+c)
		hold(t, c+"ab", c+"ab")
		hold(t, "a"+c+"b", "a"+c+"b")
		hold(t, "ab"+c, "ab"+c)
		hold(t, " "+c+" ", c)
		hold(t, "("+c+")", "(", c, ")")
	}
	hold(t, letters, letters)
	hold(t, "_ ' 0 type _0 'a 0a a'' __", "_", "'", "0", "type", "_0", "'a", "0a", "a''", "__")
	hold(t, strings.Repeat("a", 41), strings.Repeat("a", 41))
}

// Those ahead of and behind 'a', 'z', 'A', 'Z', '0', '9', the underscore and the apostrophe.
func TestTheBytesJustOutsideOfNames(t *testing.T) {
	for _, c := range []byte{'a', 'z', 'A', 'Z', '0', '9', '_', '\''} {
		for _, next := range []byte{c - 1, c + 1} {
			s := string(rune(next))
			switch {
			case strings.Contains(letters, s):
				hold(t, s, s)
				hold(t, "a"+s+"b", "a"+s+"b")
			case strings.Contains(eight, s):
				hold(t, s, s)
				hold(t, "a"+s+"b", "a", s, "b")
			default:
				refuseAround(t, s)
			}
		}
	}
	for _, s := range []string{"`", "@", "/", "^", "&"} {
		refuseAround(t, s)
	}
}

// refuseAround holds that something is nothing that may stand in a text, wherever it stands there.
func refuseAround(t *testing.T, s string) {
	t.Helper()
	for _, text := range []string{s, "a" + s, s + "a", "a" + s + "b", "(" + s, s + ")", " " + s, s + " ", "a " + s + " b", "%\n" + s, s + "%", "% " + s + "\n" + s} {
		refuse(t, text, api.ErrSyntax)
	}
	hold(t, "a%"+s, "a")
	hold(t, "% "+s+"\nb", "b")
}

func TestEachByteAlone(t *testing.T) {
	for i := range 256 {
		s := string([]byte{byte(i)})
		switch {
		case strings.Contains(eight, s), strings.Contains(letters, s):
			hold(t, s, s)
		case s == " ", s == "\t", s == "\n", s == "%":
			hold(t, s)
		default:
			refuseAround(t, s)
		}
	}
}

func TestWhatPartsNames(t *testing.T) {
	for _, s := range []string{" ", "\t", "\n", "  ", "\n\n", " \t\n", "%\n", "% a note\n", "%\n%\n", " % (\n\t"} {
		hold(t, "a"+s+"b", "a", "b")
		hold(t, "a0'"+s+"'_", "a0'", "'_")
		hold(t, s+"a"+s+"b"+s, "a", "b")
		hold(t, "a"+s+"("+s+"b", "a", "(", "b")
	}
	hold(t, "a%b", "a")
	hold(t, "a(b", "a", "(", "b")
	hold(t, "a.b:c", "a", ".", "b", ":", "c")
}

func TestANameAtTheEnd(t *testing.T) {
	hold(t, "(a", "(", "a")
	hold(t, "a b", "a", "b")
	hold(t, "%\nz'0", "z'0")
	hold(t, "a "+letters, "a", letters)
}

func TestNotes(t *testing.T) {
	for _, x := range []struct {
		name, text string
		want       []string
	}{
		{"at the beginning", "% a note\nb", []string{"b"}},
		{"at the beginning, without a line feed", "% a note", nil},
		{"behind a name", "a% b\nc", []string{"a", "c"}},
		{"behind a mark", "(% b\n)", []string{"(", ")"}},
		{"behind a space", "a % b\nc", []string{"a", "c"}},
		{"at the end, with a line feed", "a % b\n", []string{"a"}},
		{"at the end, without a line feed", "a % b", []string{"a"}},
		{"with a % in it", "a % b % c\nd", []string{"a", "d"}},
		{"with a % behind the %", "a %% b\nc", []string{"a", "c"}},
		{"with a % at its end", "a % b%\nc", []string{"a", "c"}},
		{"an empty one", "a%\nb", []string{"a", "b"}},
		{"an empty one at the end", "a%", []string{"a"}},
		{"behind another line's", "% a\n% b\nc", []string{"c"}},
		{"empty ones", "%\n%\n%\nc", []string{"c"}},
		{"with marks and names", "a %()[]{}:. b: type.\nc", []string{"a", "c"}},
		{"with what stands between", "a %\t \t\nc", []string{"a", "c"}},
		{"with what is nothing", "a % - + \" ; \\ # ~\nc", []string{"a", "c"}},
		{"with a carriage return, which ends no line", "a % b\rc\nd", []string{"a", "d"}},
		{"with a carriage return at its end", "a % b\r\nc", []string{"a", "c"}},
		{"with what is like a line feed", "a % b\v\f\x00\x7f\u0085\u2028\u2029c\nd", []string{"a", "d"}},
		{"with runes", "a % \u00e9\u03bb\u2192\U0001d7d8\nb", []string{"a", "b"}},
		{"with a rune that is told of bytes that are none", "% \ufffd\nb", []string{"b"}},
		{"with bytes that are no rune", "a % \x80\xff\xc3\nb", []string{"a", "b"}},
		{"with a rune that has begun", "a % \xe2\x86\nb", []string{"a", "b"}},
		{"with bytes that are no rune, at the end", "a % \xf0\x9f", []string{"a"}},
		{"with a line feed in too many bytes", "a % \xc0\x8a b\nc", []string{"a", "c"}},
	} {
		t.Run(x.name, func(t *testing.T) { hold(t, x.text, x.want...) })
	}
}

// P13.2

func TestText(t *testing.T) {
	holdText(t, "")
	holdText(t, "a", name("a"))
	holdText(t, "(", mark("("))
	holdText(t, "a b", name("a"), name("b"))
	holdText(t, "a b c", name("a"), name("b"), name("c"))
	holdText(t, "a a", name("a"), name("a"))
	holdText(t, "a(", name("a"), mark("("))
	holdText(t, ")a", mark(")"), name("a"))
	holdText(t, "()", mark("("), mark(")"))
	holdText(t, "()[]{}:.", toks("(", ")", "[", "]", "{", "}", ":", ".")...)
	holdText(t, "a(b", name("a"), mark("("), name("b"))
	holdText(t, "a b(c d)e", toks("a", "b", "(", "c", "d", ")", "e")...)
	holdText(t, "[_0]s(s _0)", toks("[", "_0", "]", "s", "(", "s", "_0", ")")...)
	for i := range len(eight) {
		s := eight[i : i+1]
		holdText(t, "a"+s+"b", name("a"), mark(s), name("b"))
		holdText(t, "a b"+s+s+"c d", name("a"), name("b"), mark(s), mark(s), name("c"), name("d"))
	}
}

func TestTheTextOfNothing(t *testing.T) {
	if b := lex.Text(nil); len(b) != 0 {
		t.Errorf("the text of nothing is %q", b)
	}
	if b := lex.Text([]api.Tok{}); len(b) != 0 {
		t.Errorf("the text of no tokens is %q", b)
	}
}

func TestTheTextOfTheChaptersExample(t *testing.T) {
	holdText(t, "s:{_:nat}nat.", toks("s", ":", "{", "_", ":", "nat", "}", "nat", ".")...)
}

// Between two names there is a space, at the beginning and at the end none, however many there are.
func TestTheTextOfMany(t *testing.T) {
	for n := 1; n < 100; n++ {
		holdText(t, strings.Repeat("ab ", n-1)+"ab", slices.Repeat(list(name("ab")), n)...)
		holdText(t, strings.Repeat("ab:", n), slices.Repeat(list(name("ab"), mark(":")), n)...)
		holdText(t, strings.Repeat(":", n), slices.Repeat(list(mark(":")), n)...)
	}
}
