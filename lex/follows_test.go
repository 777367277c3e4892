package lex_test

import (
	"slices"
	"strings"
	"testing"

	"amanuensis/api"
	"amanuensis/lex"
)

// plainly is the chapter's words written out, line by line: without its note, and with its marks parted from all else, a line is words.
func plainly(s string) ([]api.Tok, api.Errno) {
	if len(s) > 20000 {
		return nil, api.ErrLimit
	}
	var l []api.Tok
	for _, line := range strings.Split(s, "\n") {
		line, _, _ = strings.Cut(line, "%")
		for i := range len(eight) {
			line = strings.ReplaceAll(line, eight[i:i+1], " "+eight[i:i+1]+" ")
		}
		for _, word := range strings.Split(strings.ReplaceAll(line, "\t", " "), " ") {
			switch {
			case word == "":
			case strings.Contains(eight, word):
				l = append(l, mark(word))
			case strings.Trim(word, letters) == "" && !strings.ContainsFunc(word, beyond):
				l = append(l, name(word))
			default:
				return nil, api.ErrSyntax
			}
		}
	}
	return l, api.OK
}

func beyond(c rune) bool { return !strings.ContainsRune(letters, c) }

// textPlainly is the chapter's words of a text, from the end on: each token ahead of what is there already.
func textPlainly(l []api.Tok) string {
	s := ""
	for i, t := range slices.Backward(l) {
		if i+1 < len(l) && t.Kind == api.TokName && l[i+1].Kind == api.TokName {
			s = " " + s
		}
		s = t.Text + s
	}
	return s
}

// agree holds a text's tokens against the plain words, and the way back.
func agree(t *testing.T, s string) {
	t.Helper()
	want, wrong := plainly(s)
	l, e := lex.Tokens([]byte(s))
	if e != wrong || !slices.Equal(l, want) {
		t.Fatalf("%q: %v, %d, not %v, %d", short(s), l, e, want, wrong)
	}
	back(t, l)
}

// back holds that tokens that were told are those of their text: P13.3.
func back(t *testing.T, l []api.Tok) {
	t.Helper()
	b := lex.Text(l)
	if string(b) != textPlainly(l) {
		t.Fatalf("the text of %v is %q", l, b)
	}
	again, e := lex.Tokens(b)
	if e != api.OK || !slices.Equal(again, l) {
		t.Fatalf("the tokens of the text of %v are %v, %d", l, again, e)
	}
}

// texts goes through all texts of so many pieces.
func texts(pieces []string, n int, f func(s string)) {
	if n == 0 {
		f("")
		return
	}
	texts(pieces, n-1, func(s string) {
		for _, p := range pieces {
			f(s + p)
		}
	})
}

func TestAgainstThePlainWords(t *testing.T) {
	pieces := []string{"a", "_", "0'", "(", ".", " ", "\t", "\n", "%", "-", "\r", "\u00e9", "\x80"}
	for n := range 6 {
		texts(pieces, n, func(s string) { agree(t, s) })
	}
}

// Of texts that are in order alone, longer ones.
func TestLongerTextsAgainstThePlainWords(t *testing.T) {
	pieces := []string{"a", "b", ":", " ", "\n", "% \u00e9"}
	for n := range 8 {
		texts(pieces, n, func(s string) { agree(t, s) })
	}
}

func TestAllPairsOfBytes(t *testing.T) {
	for i := range 256 {
		for j := range 256 {
			two := string([]byte{byte(i), byte(j)})
			agree(t, two)
			agree(t, "a"+two+"a")
			agree(t, "% "+two+"(")
		}
	}
}

// dice is a row of numbers that looks like chance, and is the same each time.
type dice uint64

func (d *dice) below(n int) int {
	*d = *d*6364136223846793005 + 1442695040888963407
	return int(uint64(*d) >> 33 % uint64(n))
}

func TestManyTextsAgainstThePlainWords(t *testing.T) {
	d := dice(13)
	right := []string{"nat", "s", "z'0", "_", "type", "(", ")", "[", "]", "{", "}", ":", ".", " ", "  ", "\t", "\n", "% a (note)\n", "%\n", "% \u2192 \xff -\n"}
	wrong := []string{"-", "\r", "\x00", "\x7f", "\u00a0", "\xc3", "\""}
	for range 4000 {
		var s strings.Builder
		for range d.below(200) {
			if d.below(300) == 0 {
				s.WriteString(wrong[d.below(len(wrong))])
			}
			s.WriteString(right[d.below(len(right))])
		}
		agree(t, s.String())
		agree(t, s.String()+"%")
	}
}

func TestLongTextsAgainstThePlainWords(t *testing.T) {
	d := dice(31)
	for range 40 {
		b := make([]byte, 19990+d.below(12))
		for i := range b {
			b[i] = "ab'_09(.): \t\n"[d.below(13)]
		}
		agree(t, string(b))
	}
}

// P13.3

// The text of what was told is no longer than what it was told of, so that it is not too long where that was not.
func TestTheTextOfTokensIsNoLonger(t *testing.T) {
	for _, s := range []string{strings.Repeat("a ", 10000), strings.Repeat("a\n", 9999) + "bc", strings.Repeat("a(", 10000), strings.Repeat("a", 20000), strings.Repeat(":", 20000), strings.Repeat("a%\n", 6666) + "a"} {
		l, e := lex.Tokens([]byte(s))
		if e != api.OK {
			t.Fatalf("%q: %d", short(s), e)
		}
		if b := lex.Text(l); len(b) > len(s) {
			t.Errorf("%q: %d bytes of %d", short(s), len(b), len(s))
		}
		back(t, l)
	}
}

// Tokens that a text may have are those of their text, whatever stands beside what.
func TestTokensOfText(t *testing.T) {
	var all []api.Tok
	for i := range len(eight) {
		all = append(all, mark(eight[i:i+1]))
	}
	for i := range len(letters) {
		all = append(all, name(letters[i:i+1]))
	}
	all = append(all, name("nat"), name("_0"), name("z'"), name(letters))
	for _, x := range all {
		back(t, list(x))
		for _, y := range all {
			back(t, list(x, y))
			back(t, list(x, y, x))
			back(t, list(y, x, x, y))
		}
	}
}

// What is read again is written as it was.
func TestTextOfTokensOfText(t *testing.T) {
	texts([]string{"a", "b'", "(", ".", " ", "%\n"}, 6, func(s string) {
		l, _ := lex.Tokens([]byte(s))
		b := lex.Text(l)
		again, _ := lex.Tokens(b)
		if got := lex.Text(again); string(got) != string(b) {
			t.Fatalf("%q: %q is written as %q", s, b, got)
		}
	})
}
