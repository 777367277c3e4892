package parse_test

import (
	"slices"
	"strings"
	"testing"

	"amanuensis/api"
	"amanuensis/lex"
	"amanuensis/parse"
	"amanuensis/term"
)

// The chapter's words, written out once more: not by functions that call one another, but by a list of what must still stand, which is gone through from the first token on. That the two tell the same is held below, of very many texts.

// step is something that must stand, or be done, next: it tells whether it has read the token, and what is wrong with it.
type step func(m *machine, tok string) (bool, api.Errno)

// machine has what must still stand, the next thing last; the terms that are made, those whose nodes are not whole among them; the names that are bound, and those that will be; the declarations.
type machine struct {
	todo  []step
	made  []api.Term
	bound []string
	named []string
	name  string
	sig   []api.Decl
}

// must lays what must stand ahead of all else, the first thing first.
func (m *machine) must(l ...step) {
	for _, s := range slices.Backward(l) {
		m.todo = append(m.todo, s)
	}
}

// run goes through a token, and all that is to be done ahead of it and with it.
func (m *machine) run(tok string) api.Errno {
	for len(m.todo) > 0 {
		last := len(m.todo) - 1
		next := m.todo[last]
		m.todo = m.todo[:last]
		read, e := next(m, tok)
		if e != api.OK || read {
			return e
		}
	}
	return api.OK
}

func do(f func(m *machine)) step {
	return func(m *machine, _ string) (bool, api.Errno) {
		f(m)
		return false, api.OK
	}
}

func isName(tok string) bool { return tok != "" && strings.Contains(letters, tok[:1]) }

func mark(text string) step {
	return func(_ *machine, tok string) (bool, api.Errno) {
		if tok != text {
			return false, api.ErrSyntax
		}
		return true, api.OK
	}
}

func theName(m *machine, tok string) (bool, api.Errno) {
	if !isName(tok) {
		return false, api.ErrSyntax
	}
	m.named = append(m.named, tok)
	return true, api.OK
}

func enter(m *machine) {
	last := len(m.named) - 1
	m.bound = append(m.bound, m.named[last])
	m.named = m.named[:last]
}

func leave(m *machine) { m.bound = m.bound[:len(m.bound)-1] }

// gather makes a node of the last terms that were made.
func gather(kind, n int) step {
	return do(func(m *machine) {
		at := len(m.made) - n
		x := node(kind, 0, slices.Clone(m.made[at:])...)
		m.made = append(m.made[:at], x)
	})
}

// hang makes the last term one of the others of the one ahead of it.
func hang(m *machine) {
	last := len(m.made) - 1
	m.made[last-1].Args = append(m.made[last-1].Args, m.made[last])
	m.made = m.made[:last]
}

// look is what a name is as a head.
func (m *machine) look(name string) (api.Term, bool) {
	if name == "type" {
		return sort, true
	}
	for i := range m.bound {
		if m.bound[len(m.bound)-1-i] == name {
			return vari(i), true
		}
	}
	for i, d := range m.sig {
		if d.Name == name {
			of := d.T
			for of.Kind == api.Pi && len(of.Args) == 2 {
				of = of.Args[1]
			}
			if of.Kind == api.Sort {
				return fam(i), true
			}
			return con(i), true
		}
	}
	return api.Term{}, false
}

// aTerm is a TERM in so many, with itself.
func aTerm(n int) step {
	return func(m *machine, tok string) (bool, api.Errno) {
		head, is := m.look(tok)
		switch {
		case !isName(tok) && tok != "{" && tok != "[" && tok != "(":
			return false, api.ErrSyntax
		case isName(tok) && !is:
			return false, api.ErrScope
		case n > 120:
			return false, api.ErrLimit
		}
		switch tok {
		case "{":
			m.must(theName, mark(":"), aTerm(n+1), mark("}"), do(enter), aTerm(n+1), do(leave), gather(api.Pi, 2))
		case "[":
			m.must(theName, mark("]"), do(enter), aTerm(n+1), do(leave), gather(api.Lam, 1))
		case "(":
			m.must(aTerm(n+1), mark(")"), noOther)
		case "type":
			m.made = append(m.made, head)
			m.must(noOther)
		default:
			m.made = append(m.made, head)
			m.must(someOthers(n))
		}
		return true, api.OK
	}
}

func noOther(_ *machine, tok string) (bool, api.Errno) {
	if isName(tok) || tok == "(" {
		return false, api.ErrSyntax
	}
	return false, api.OK
}

func someOthers(n int) step {
	return func(m *machine, tok string) (bool, api.Errno) {
		switch {
		case tok == "(":
			m.must(aTerm(n+1), mark(")"), do(hang), someOthers(n))
			return true, api.OK
		case tok == "type":
			return false, api.ErrSyntax
		case !isName(tok):
			return false, api.OK
		}
		a, is := m.look(tok)
		if !is {
			return false, api.ErrScope
		}
		m.made = append(m.made, a)
		hang(m)
		m.must(someOthers(n))
		return true, api.OK
	}
}

func itMay(m *machine, _ string) (bool, api.Errno) {
	t := m.made[len(m.made)-1]
	if depth(t) > 60 || size(t) > 4000 {
		return false, api.ErrLimit
	}
	return false, api.OK
}

func size(t api.Term) int {
	n := 1
	for _, a := range t.Args {
		n += size(a)
	}
	return n
}

func aNewName(m *machine, tok string) (bool, api.Errno) {
	again := slices.ContainsFunc(m.sig, func(d api.Decl) bool { return d.Name == tok })
	if !isName(tok) || tok[0] == '_' || tok == "type" || len(tok) > 40 || again {
		return false, api.ErrSyntax
	}
	m.name = tok
	return true, api.OK
}

func declare(m *machine) {
	m.sig = append(m.sig, decl(m.name, m.made[0]))
	m.made = nil
}

// tokens are the texts of a text's tokens, and that of the end, which is none.
func tokens(s string) ([]string, api.Errno) {
	l, e := lex.Tokens([]byte(s))
	var texts []string
	for _, tok := range l {
		texts = append(texts, tok.Text)
	}
	return append(texts, ""), e
}

func declsPlainly(s string) ([]api.Decl, api.Errno) {
	l, e := tokens(s)
	if e != api.OK {
		return nil, e
	}
	m := &machine{}
	for _, tok := range l {
		// What is done behind a full stop is done already: nothing is left of a declaration then.
		if len(m.todo) == 0 && tok != "" {
			if len(m.sig) == 40 {
				return nil, api.ErrLimit
			}
			m.must(aNewName, mark(":"), aTerm(1), itMay, mark("."))
		}
		if e := m.run(tok); e != api.OK {
			return nil, e
		}
		if tok == "." && len(m.todo) == 0 {
			declare(m)
		}
	}
	return m.sig, api.OK
}

func termPlainly(s string, ahead []api.Decl) (api.Term, api.Errno) {
	l, e := tokens(s)
	if e != api.OK {
		return api.Term{}, e
	}
	m := &machine{sig: ahead}
	m.must(aTerm(1), itMay, mark(""))
	for _, tok := range l {
		if e := m.run(tok); e != api.OK {
			return api.Term{}, e
		}
	}
	return m.made[0], api.OK
}

// agree and agreeOver hold what is read of a text against the plain words.
func agree(t *testing.T, s string) api.Errno {
	t.Helper()
	want, wrong := declsPlainly(s)
	l, e := parse.Decls([]byte(s))
	if e != wrong || !equalDecls(l, want) {
		t.Fatalf("the declarations of %q are %v, %d, not %v, %d", short(s), l, e, want, wrong)
	}
	for _, d := range l {
		scoped(t, s, d.T)
	}
	return e
}

func agreeOver(t *testing.T, s string, ahead []api.Decl) api.Errno {
	t.Helper()
	want, wrong := termPlainly(s, ahead)
	x, e := parse.Term([]byte(s), ahead)
	if e != wrong || !equal(x, want) {
		t.Fatalf("the term of %q is %v, %d, not %v, %d", short(s), x, e, want, wrong)
	}
	scoped(t, s, x)
	return e
}

// P14.4: without free variables and metas.
func scoped(t *testing.T, s string, x api.Term) {
	t.Helper()
	if !term.Scoped(x, 0, 0) || !term.May(x) {
		t.Fatalf("%q: %v has free variables, or metas, or may not be", short(s), x)
	}
}

// texts goes through all texts of so many pieces, with a space between.
func texts(pieces []string, n int, f func(s string)) {
	if n == 0 {
		f("")
		return
	}
	texts(pieces, n-1, func(s string) {
		for _, p := range pieces {
			f(s + " " + p)
		}
	})
}

func TestAllShortTermsAgainstThePlainWords(t *testing.T) {
	ahead := systemSig()
	told := map[api.Errno]int{}
	count := func(pieces []string, most int) {
		for n := range most + 1 {
			texts(pieces, n, func(s string) { told[agreeOver(t, s, ahead)]++ })
		}
	}
	count([]string{"s", "x", "type", "(", ")", "[", "]", "{", "}", ":", ".", "nat"}, 4)
	count([]string{"s", "x", "q", "type", "(", ")", "[x]", "{x:", "}"}, 5)
	count([]string{"s", "(", ")", "type", "[s]"}, 7)
	count([]string{"x", "y", "[x]", "[y]", "{x:", "}"}, 6)
	for _, e := range []api.Errno{api.OK, api.ErrScope, api.ErrSyntax} {
		if told[e] < 500 {
			t.Errorf("%d is told of %d texts alone", e, told[e])
		}
	}
}

func TestAllShortTextsAgainstThePlainWords(t *testing.T) {
	told := map[api.Errno]int{}
	count := func(ahead string, pieces []string, most int) {
		for n := range most + 1 {
			texts(pieces, n, func(s string) { told[agree(t, ahead+s)]++ })
		}
	}
	count("", []string{"a", "b", "_", "type", ":", ".", "(", ")"}, 5)
	count("", []string{"a: type.", "a:", "b:", "a", "b", ".", "[a]", "{b:", "}"}, 5)
	count("a: type. ", []string{"b:", "c:", "a", "b", "c", ".", "a.", "{a: a}"}, 5)
	count(many(38), []string{"many0", "a", "b", "q", ":", "type", "."}, 5)
	for _, e := range []api.Errno{api.OK, api.ErrScope, api.ErrSyntax} {
		if told[e] < 50 {
			t.Errorf("%d is told of %d texts alone", e, told[e])
		}
	}
}

// dice is a row of numbers that looks like chance, and is the same each time.
type dice uint64

func (d *dice) below(n int) int {
	*d = *d*6364136223846793005 + 1442695040888963407
	return int(uint64(*d) >> 33 % uint64(n))
}

// anyTerm are the tokens of a TERM that is in order but, at times, for its heads: of names that are bound, or declared, or neither.
func (d *dice) anyTerm(names []string, deep int) []string {
	name := names[d.below(len(names))]
	if d.below(60) == 0 {
		name = "type"
	}
	bind := []string{"x", "y", "_", "nat", "s"}[d.below(5)]
	switch d.below(4 + min(deep, 6)) {
	case 4, 5:
		return slices.Concat([]string{"[", bind, "]"}, d.anyTerm(append(slices.Clone(names), bind), deep-1))
	case 6:
		return slices.Concat([]string{"{", bind, ":"}, d.anyTerm(names, deep-1), []string{"}"}, d.anyTerm(append(slices.Clone(names), bind), deep-1))
	case 7:
		return slices.Concat([]string{"("}, d.anyTerm(names, deep-1), []string{")"})
	case 8, 9:
		l := []string{name}
		for range d.below(4) {
			if d.below(3) == 0 {
				l = append(l, names[d.below(len(names))])
			} else {
				l = slices.Concat(l, []string{"("}, d.anyTerm(names, deep-1), []string{")"})
			}
		}
		return l
	}
	return []string{name}
}

// spoil makes a token or two another one, or none, or two.
func (d *dice) spoil(l []string) []string {
	l = slices.Clone(l)
	others := []string{"(", ")", "[", "]", "{", "}", ":", ".", "x", "s", "q", "type", "_", "nat"}
	for range d.below(3) {
		at := d.below(len(l))
		other := others[d.below(len(others))]
		switch d.below(3) {
		case 0:
			l[at] = other
		case 1:
			l = slices.Insert(l, at, other)
		default:
			l = append(slices.Delete(l, at, at+1), other)
		}
	}
	return l
}

func TestManyTermsAgainstThePlainWords(t *testing.T) {
	d := dice(7)
	told := map[api.Errno]int{}
	ahead := systemSig()
	for range 60000 {
		l := d.anyTerm([]string{"nat", "z", "s", "le", "r"}, 3+d.below(10))
		told[agreeOver(t, strings.Join(l, " "), ahead)]++
		told[agreeOver(t, strings.Join(d.spoil(l), "\n"), ahead)]++
	}
	for _, e := range []api.Errno{api.OK, api.ErrScope, api.ErrSyntax} {
		if told[e] < 2000 {
			t.Errorf("%d is told of %d texts alone: %v", e, told[e], told)
		}
	}
}

func TestManyTextsAgainstThePlainWords(t *testing.T) {
	d := dice(41)
	told := map[api.Errno]int{}
	for range 4000 {
		l := strings.Fields(system)
		names := []string{"nat", "z", "s", "le", "r"}
		for i := range d.below(38) {
			name := "a" + number(i)
			if d.below(400) == 0 {
				name = []string{"_", "type", "z", "a0", repeat("a", 41)}[d.below(5)]
			}
			l = slices.Concat(l, []string{name, ":"}, d.anyTerm(names, d.below(8)), []string{"."})
			names = append(names, name)
		}
		told[agree(t, strings.Join(l, " "))]++
		told[agree(t, strings.Join(d.spoil(l), " "))]++
	}
	for _, e := range []api.Errno{api.OK, api.ErrScope, api.ErrSyntax, api.ErrLimit} {
		if told[e] < 20 {
			t.Errorf("%d is told of %d texts alone: %v", e, told[e], told)
		}
	}
}

// At each place of a text each token in the stead of the one there, ahead of it, and none.
func TestEachTokenAtEachPlace(t *testing.T) {
	toks := strings.Fields(system + "f : { x : nat } ( { y : ( le x x ) } le ( s x ) ( [ u ] u ( ( x ) ) ) ) . g : [ f ] f ( type ) f . h : type .")
	others := []string{"(", ")", "[", "]", "{", "}", ":", ".", "x", "s", "q", "type", "_", "f", "h", ""}
	for at := range len(toks) + 1 {
		for _, x := range others {
			agree(t, strings.Join(slices.Concat(toks[:at], []string{x}, toks[at:]), " "))
			agree(t, strings.Join(slices.Concat(toks[:at], []string{x}), " "))
			if at < len(toks) {
				agree(t, strings.Join(slices.Concat(toks[:at], []string{x}, toks[at+1:]), " "))
			}
		}
	}
}

// TERMs one in the other, of all sorts at once, near the limit.
func TestManyNestedTermsAgainstThePlainWords(t *testing.T) {
	d := dice(121)
	told := map[api.Errno]int{}
	opens := []string{"(", "(", "(", "(", "(", "(", "s (", "[x]", "{x: nat}", "{x:", "s z (", "(("}
	for range 6000 {
		var s strings.Builder
		for range 60 + d.below(70) {
			s.WriteString(opens[d.below(len(opens))])
		}
		s.WriteString([]string{"z", "q", ")", "type", "", "z q", "[", "x"}[d.below(8)])
		told[agreeOver(t, s.String(), systemSig())]++
		told[agree(t, system+"new: "+s.String())]++
	}
	for _, e := range []api.Errno{api.ErrLimit, api.ErrScope, api.ErrSyntax} {
		if told[e] < 100 {
			t.Errorf("%d is told of %d texts alone: %v", e, told[e], told)
		}
	}
}

// P14.4

// write is a text of a term over the system, below so many nodes that bind, by names that are told.
func write(t api.Term, binders int, name func(i int) string) string {
	var s string
	switch t.Kind {
	case api.Sort:
		return "type"
	case api.Pi:
		return "{" + name(binders) + ":" + write(t.Args[0], binders, name) + "}" + write(t.Args[1], binders+1, name)
	case api.Lam:
		return "[" + name(binders) + "]" + write(t.Args[0], binders+1, name)
	case api.Var:
		s = name(binders - 1 - t.Head)
	default:
		s = systemSig()[t.Head].Name
	}
	for _, a := range t.Args {
		s += "(" + write(a, binders, name) + ")"
	}
	return s
}

// term is any term over the system that is scoped, below so many nodes that bind.
func (d *dice) term(binders, deep int) api.Term {
	kind := d.below(7)
	if deep == 0 {
		kind = 2 + d.below(3)
	}
	var args []api.Term
	for range min(deep, d.below(4)) {
		args = append(args, d.term(binders, deep-1))
	}
	switch {
	case kind < 1:
		return pi(d.term(binders, deep-1), d.term(binders+1, deep-1))
	case kind < 2 || kind > 4:
		return lam(d.term(binders+1, deep-1))
	case kind == 2 && binders > 0:
		return vari(d.below(binders), args...)
	case kind == 3 && d.below(4) == 0:
		return sort
	}
	return []api.Term{fam(0, args...), con(1, args...), con(2, args...), fam(3, args...), con(4, args...)}[d.below(5)]
}

// What names are bound by does not matter, as long as they are others.
func TestNamesThatAreBoundDoNotMatter(t *testing.T) {
	d := dice(144)
	ways := []func(i int) string{
		func(i int) string { return "x" + number(i) },
		func(i int) string { return "_" + number(i) },
		func(i int) string { return repeat("_", i+1) },
		func(i int) string { return "'" + number(99-i) },
		func(i int) string { return number(i) + "nat" },
		func(i int) string { return repeat("a", 41+i) },
		func(i int) string { return "type" + number(i) },
	}
	for n := range 3000 {
		x := d.term(0, n%9)
		for _, name := range ways {
			s := write(x, 0, name)
			if len(s) > 15000 || size(x) > 4000 {
				continue
			}
			holdTerm(t, s, x)
			agreeOver(t, s, systemSig())
		}
	}
}

// What was read has no free variables and no metas, however it is bound.
func TestWhatIsReadIsScoped(t *testing.T) {
	l, e := parse.Decls([]byte(system + "f: {x: nat}{y: le x x}[u] u x (y u) ([x] x y). g: [nat][type] nat (f nat) (type)."))
	if e != api.OK || len(l) != 7 {
		t.Fatal(l, e)
	}
	for _, d := range l {
		scoped(t, d.Name, d.T)
	}
	for _, ahead := range [][]api.Decl{nil, systemSig(), sig(decl("x", vari(5)), decl("y", node(api.Meta, 2)), decl("z", node(-1, 0)))} {
		for _, s := range []string{"[x] x", "[x][y] x y", "{x: type} x", "[x] {y: x} [z] z y x", "type"} {
			x, e := parse.Term([]byte(s), ahead)
			if e != api.OK {
				t.Fatal(s, e)
			}
			scoped(t, s, x)
		}
	}
}
