package parse_test

import (
	"slices"
	"strconv"
	"strings"
	"testing"

	"amanuensis/api"
	"amanuensis/parse"
)

// All bytes that may stand in a name, as chapter 13 has them.
const letters = "abcdefghijklmnopqrstuvwxyzABCDEFGHIJKLMNOPQRSTUVWXYZ0123456789_'"

var sort = api.Term{Kind: api.Sort}

func node(kind, head int, args ...api.Term) api.Term {
	return api.Term{Kind: kind, Head: head, Args: args}
}

func pi(a, b api.Term) api.Term                { return node(api.Pi, 0, a, b) }
func lam(a api.Term) api.Term                  { return node(api.Lam, 0, a) }
func fam(head int, args ...api.Term) api.Term  { return node(api.Fam, head, args...) }
func vari(head int, args ...api.Term) api.Term { return node(api.Var, head, args...) }
func con(head int, args ...api.Term) api.Term  { return node(api.Const, head, args...) }

func equal(a, b api.Term) bool {
	return a.Kind == b.Kind && a.Head == b.Head && slices.EqualFunc(a.Args, b.Args, equal)
}

func equalDecls(a, b []api.Decl) bool {
	return slices.EqualFunc(a, b, func(x, y api.Decl) bool { return x.Name == y.Name && equal(x.T, y.T) })
}

func decl(name string, t api.Term) api.Decl { return api.Decl{Name: name, T: t} }

func sig(l ...api.Decl) []api.Decl { return l }

// The system that most texts are over: a family nat 0, z 1 and s 2 of it, a family le 3 of two of it, and r 4, which is of an le.
const system = "nat: type. z: nat. s: {n: nat} nat. le: {_: nat} {_: nat} type. r: {x: nat} le x x. "

func systemSig() []api.Decl {
	nat := fam(0)
	return sig(decl("nat", sort), decl("z", nat), decl("s", pi(nat, nat)), decl("le", pi(nat, pi(nat, sort))),
		decl("r", pi(nat, fam(3, vari(0), vari(0)))))
}

// short is what of a text is told when a test fails.
func short(s string) string {
	if len(s) > 200 {
		return s[:200] + ".."
	}
	return s
}

func repeat(s string, n int) string { return strings.Repeat(s, n) }

func number(i int) string { return strconv.Itoa(i) }

// hold holds the declarations of a text.
func hold(t *testing.T, s string, want ...api.Decl) {
	t.Helper()
	if l, e := parse.Decls([]byte(s)); e != api.OK || !equalDecls(l, want) {
		t.Errorf("the declarations of %q are %v, %d, not %v", short(s), l, e, want)
	}
}

// refuse holds that a text has an error, and that nothing is told beside it.
func refuse(t *testing.T, s string, want api.Errno) {
	t.Helper()
	if l, e := parse.Decls([]byte(s)); e != want || len(l) != 0 {
		t.Errorf("the declarations of %q are %v, %d, not %d", short(s), l, e, want)
	}
}

// holdTerm holds the term of a text over the system: by Term, and as one more declaration.
func holdTerm(t *testing.T, s string, want api.Term) {
	t.Helper()
	over(t, s, systemSig(), want)
	hold(t, system+"new: "+s+".", append(systemSig(), decl("new", want))...)
}

// refuseTerm is refuse of the term of a text, as holdTerm has it.
func refuseTerm(t *testing.T, s string, want api.Errno) {
	t.Helper()
	refuseOver(t, s, systemSig(), want)
	refuse(t, system+"new: "+s+".", want)
}

// over and refuseOver are of Term alone, over any declarations.
func over(t *testing.T, s string, ahead []api.Decl, want api.Term) {
	t.Helper()
	if x, e := parse.Term([]byte(s), ahead); e != api.OK || !equal(x, want) {
		t.Errorf("the term of %q is %v, %d, not %v", short(s), x, e, want)
	}
}

func refuseOver(t *testing.T, s string, ahead []api.Decl, want api.Errno) {
	t.Helper()
	if x, e := parse.Term([]byte(s), ahead); e != want || !equal(x, api.Term{}) {
		t.Errorf("the term of %q is %v, %d, not %d", short(s), x, e, want)
	}
}

func holdName(t *testing.T, s string, want bool) {
	t.Helper()
	if parse.Name(s) != want {
		t.Errorf("that %q is a name is %v", short(s), !want)
	}
}

// P14.1

func TestNamesOfEachLength(t *testing.T) {
	holdName(t, "", false)
	for n := 1; n <= 40; n++ {
		holdName(t, repeat("a", n), true)
		holdName(t, repeat("'", n), true)
		holdName(t, repeat("0", n), true)
		holdName(t, repeat("_", n), false)
		holdName(t, "a"+repeat("_", n-1), true)
	}
	for _, n := range []int{41, 42, 80, 255, 256, 257, 296, 20000, 20001, 1 << 16, 1<<16 + 1, 1 << 20} {
		holdName(t, repeat("a", n), false)
		holdName(t, repeat(" ", n-1)+"a", false)
		holdName(t, "a"+repeat(" ", n-1), false)
	}
}

// Each byte at the beginning, within and at the end, alone and in a name as long as it may be.
func TestEachByteOfAName(t *testing.T) {
	for i := range 256 {
		c := string([]byte{byte(i)})
		may := strings.Contains(letters, c)
		holdName(t, c, may && c != "_")
		holdName(t, c+"b", may && c != "_")
		holdName(t, c+repeat("b", 39), may && c != "_")
		holdName(t, c+repeat("b", 40), false)
		holdName(t, "a"+c, may)
		holdName(t, "a"+c+"b", may)
		holdName(t, repeat("a", 20)+c+repeat("b", 19), may)
		holdName(t, repeat("a", 39)+c, may)
		holdName(t, repeat("a", 40)+c, false)
		holdName(t, "_"+c, false)
		holdName(t, "_a"+c+"b", false)
	}
}

func TestUnderscores(t *testing.T) {
	for _, s := range []string{"_", "__", "_a", "_0", "_'", "_type", "_" + repeat("a", 39), "_ a", "_."} {
		holdName(t, s, false)
	}
	for _, s := range []string{"a_", "a_b", "a__b", "0_", "'_", "type_", "a" + repeat("_", 39)} {
		holdName(t, s, true)
	}
}

func TestNamesWithApostrophesAndFigures(t *testing.T) {
	for _, s := range []string{"'", "'a", "a'", "a'b", "''", "'0", "0", "0a", "00", "9", "z'", "0_'", "40"} {
		holdName(t, s, true)
	}
}

func TestTheNameType(t *testing.T) {
	holdName(t, "type", false)
	for _, s := range []string{"types", "type0", "type'", "type_", "typetype", "typeType", "atype", "0type", "'type", "atypeb", "typ", "ype", "tYpe", "Type", "TYPE", "typ'e"} {
		holdName(t, s, true)
	}
}

func TestWhatIsNoName(t *testing.T) {
	for _, s := range []string{
		" ", "\n", "%", " a", "a ", "a b", "\ta", "a\t", "a\n", "\na", "a\nb", "a%", "%a", "a%b", "% a\nb", "%\na", "a\r", "a\x00", "\x00",
		"(a)", "(", "a.", ".a", "a:", "a.b", "{a}", "[a]", "a: type.", "type.", "(type)", " type", "-a", "a-b", "a/b", "a\"", "\u00e9", "a\u00e9",
		"\u00e9a", "a\x80", "\x80a", "a\xffb", "\xc3", "\u2019", "\uff41", "a\u0301", "\ufeffa",
	} {
		holdName(t, s, false)
	}
}

// A name may be declared exactly if it is one.
func TestNamesThatAreDeclared(t *testing.T) {
	for _, s := range []string{"a", "0", "'", "a_", "z'0", "types", "Type", repeat("a", 40), repeat("'", 40)} {
		holdName(t, s, true)
		hold(t, s+": type. b: "+s+".", decl(s, sort), decl("b", fam(0)))
	}
	for _, s := range []string{"_", "__", "_a", "_0", "type", "_type", repeat("a", 41), repeat("0", 100), repeat("a", 5000), "_" + repeat("a", 39)} {
		holdName(t, s, false)
		refuse(t, s+": type.", api.ErrSyntax)
		refuse(t, "a: type. "+s+": a.", api.ErrSyntax)
		refuse(t, "a: type. "+s+": a. b: a.", api.ErrSyntax)
	}
}

// P14.2

func TestTheChaptersExample(t *testing.T) {
	hold(t, "nat: type. z: nat. s: {n: nat} nat.", decl("nat", sort), decl("z", fam(0)), decl("s", pi(fam(0), fam(0))))
	hold(t, "nat:type.z:nat.s:{n:nat}nat.", decl("nat", sort), decl("z", fam(0)), decl("s", pi(fam(0), fam(0))))
	hold(t, "s: type. t: {_:s}s.", decl("s", sort), decl("t", pi(fam(0), fam(0))))
	hold(t, system, systemSig()...)
	over(t, "[x] s (s x)", systemSig()[:3], lam(con(2, con(2, vari(0)))))
	over(t, "[_0]s(s _0)", systemSig()[:3], lam(con(2, con(2, vari(0)))))
}

func TestNoDeclarations(t *testing.T) {
	if l, e := parse.Decls(nil); e != api.OK || len(l) != 0 {
		t.Errorf("the declarations of nothing are %v, %d", l, e)
	}
	for _, s := range []string{"", " ", "\t", "\n", " \n\t", "%", "% a: type.", "% a: type.\n", "\n% a\n\t% b\n ", repeat(" ", 20000), "%" + repeat("-", 19999)} {
		hold(t, s)
		refuseOver(t, s, nil, api.ErrSyntax)
		refuseOver(t, s, systemSig(), api.ErrSyntax)
	}
}

func TestBlanksAndNotesBetween(t *testing.T) {
	want := systemSig()[:3]
	toks := []string{"nat", ":", "type", ".", "z", ":", "nat", ".", "s", ":", "{", "n", ":", "nat", "}", "nat", "."}
	for _, between := range []string{" ", "\t", "\n", "  \n\t", "%\n", "% a: ( note.\n", " % \u00e9 \xff\n "} {
		hold(t, strings.Join(toks, between), want...)
		hold(t, between+strings.Join(toks, between)+between, want...)
	}
	hold(t, strings.Join(toks, " ")+"% the end", want...)
}

func TestTerms(t *testing.T) {
	nat, z := fam(0), con(1)
	s := func(a api.Term) api.Term { return con(2, a) }
	for text, want := range map[string]api.Term{
		"type":                              sort,
		"nat":                               nat,
		"z":                                 z,
		"s z":                               s(z),
		"s (s z)":                           s(s(z)),
		"s (s (s z))":                       s(s(s(z))),
		"le z z":                            fam(3, z, z),
		"le (s z) z":                        fam(3, s(z), z),
		"le z (s z)":                        fam(3, z, s(z)),
		"le (s z)(s z)":                     fam(3, s(z), s(z)),
		"{x: nat} nat":                      pi(nat, nat),
		"{x: nat} type":                     pi(nat, sort),
		"{x: type} type":                    pi(sort, sort),
		"{x: nat} le x x":                   pi(nat, fam(3, vari(0), vari(0))),
		"{x: nat} {y: nat} le x y":          pi(nat, pi(nat, fam(3, vari(1), vari(0)))),
		"{x: nat} {y: le x (s x)} le x x":   pi(nat, pi(fam(3, vari(0), s(vari(0))), fam(3, vari(1), vari(1)))),
		"{f: {x: nat} nat} nat":             pi(pi(nat, nat), nat),
		"{f: {x: nat} le x x} le z (f z)":   pi(pi(nat, fam(3, vari(0), vari(0))), fam(3, z, vari(0, z))),
		"[x] x":                             lam(vari(0)),
		"[x] z":                             lam(z),
		"[x] s x":                           lam(s(vari(0))),
		"[x][y] x":                          lam(lam(vari(1))),
		"[x][y] y":                          lam(lam(vari(0))),
		"[x][y][z] x (y z) z":               lam(lam(lam(vari(2, vari(1, vari(0)), vari(0))))),
		"[f] f ([x] f ([y] x y f))":         lam(vari(0, lam(vari(1, lam(vari(1, vari(0), vari(2))))))),
		"[x] {y: le x x} [u] le x u":        lam(pi(fam(3, vari(0), vari(0)), lam(fam(3, vari(2), vari(0))))),
		"{x: [y] y} x":                      pi(lam(vari(0)), vari(0)),
		"nat nat nat":                       fam(0, nat, nat),
		"z z (z z) z":                       con(1, z, con(1, z), z),
		"s ([x] x) ({x: nat} x) (type)":     con(2, lam(vari(0)), pi(nat, vari(0)), sort),
		"r z":                               con(4, z),
		"[x] r (s x)":                       lam(con(4, s(vari(0)))),
		"{y: nat} {x: le y z} {u: nat} nat": pi(nat, pi(fam(3, vari(0), z), pi(nat, nat))),
	} {
		holdTerm(t, text, want)
	}
}

// TERMs in ( ), alone and with others.

func TestParens(t *testing.T) {
	nat, z := fam(0), con(1)
	for text, want := range map[string]api.Term{
		"(z)":                   z,
		"((z))":                 z,
		"(((z)))":               z,
		"(type)":                sort,
		"((type))":              sort,
		"(s z)":                 con(2, z),
		"((s (z)))":             con(2, z),
		"s (z)":                 con(2, z),
		"s ((z))":               con(2, z),
		"s (((s z)))":           con(2, con(2, z)),
		"s (z) z (z)":           con(2, z, z, z),
		"([x] x)":               lam(vari(0)),
		"([x] (x))":             lam(vari(0)),
		"({x: nat} nat)":        pi(nat, nat),
		"({x: (nat)} (nat))":    pi(nat, nat),
		"{x: ({y: nat} y)} x":   pi(pi(nat, vari(0)), vari(0)),
		"{x: {y: nat} y} x":     pi(pi(nat, vari(0)), vari(0)),
		"{x: [y] y} x":          pi(lam(vari(0)), vari(0)),
		"{x: ([y] y)} x":        pi(lam(vari(0)), vari(0)),
		"{x: nat} ([y] x y)":    pi(nat, lam(vari(1, vari(0)))),
		"[x] ({y: x} y)":        lam(pi(vari(0), vari(0))),
		"[x] ([y] (x (y)))":     lam(lam(vari(1, vari(0)))),
		"s ([x] x)":             con(2, lam(vari(0))),
		"s ({x: nat} x)":        con(2, pi(nat, vari(0))),
		"s (type)":              con(2, sort),
		"nat (type) z ((type))": fam(0, sort, z, sort),
		"[x] x (type)":          lam(vari(0, sort)),
		"{x: (type)} (type)":    pi(sort, sort),
		"s (nat) (le z z)":      con(2, nat, fam(3, z, z)),
		"(s) ":                  con(2),
		"(nat)":                 nat,
		"([x] x) % a note":      lam(vari(0)),
	} {
		over(t, text, systemSig(), want)
		hold(t, system+"new: "+text+"\n.", append(systemSig(), decl("new", want))...)
	}
	for _, first := range []string{"(z)", "(s)", "(s z)", "((s))", "([x] x)", "({x: nat} nat)", "(type)", "((type))", "(nat)", "((nat) )"} {
		for _, other := range []string{"z", "(z)", "type", "q", "(q)", "(", "([x] x)", "_", "(type)"} {
			refuseTerm(t, first+other, api.ErrSyntax)
			refuseTerm(t, "[x]"+first+" "+other, api.ErrSyntax)
			refuseTerm(t, "{x: "+first+other+"} nat", api.ErrSyntax)
			refuseTerm(t, "{x: nat}"+first+other, api.ErrSyntax)
			refuseTerm(t, "s z ("+first+other+") z", api.ErrSyntax)
			refuseTerm(t, "("+first+")"+other, api.ErrSyntax)
		}
	}
}

// A Pi or a Lam goes on as far as it can, and may be one of the others in ( ) alone.
func TestPisAndLamsWithoutParens(t *testing.T) {
	nat, z := fam(0), con(1)
	for text, want := range map[string]api.Term{
		"[x] s x z":              lam(con(2, vari(0), z)),
		"[x] s ([y] y z) z":      lam(con(2, lam(vari(0, z)), z)),
		"{x: nat} s x z":         pi(nat, con(2, vari(0), z)),
		"{x: nat z} s x":         pi(fam(0, z), con(2, vari(0))),
		"{x: [y] y z} z":         pi(lam(vari(0, z)), z),
		"{x: {y: nat} y z} z":    pi(pi(nat, vari(0, z)), z),
		"[x] {y: nat} [u] x y u": lam(pi(nat, lam(vari(2, vari(1), vari(0))))),
	} {
		holdTerm(t, text, want)
	}
	for _, s := range []string{"s [x] x", "s {x: nat} x", "s z [x] x", "s z {x: nat} nat", "type [x] x", "type {x: nat} nat", "(z) [x] x", "(z) {x: nat} x", "[x] x [y] y", "[x] x {y: nat} y", "([x] x) [y] y"} {
		refuseTerm(t, s, api.ErrSyntax)
	}
}

// The name type alone is the Sort, and nothing else.
func TestTheSort(t *testing.T) {
	holdTerm(t, "type", sort)
	hold(t, "a: type.", decl("a", sort))
	hold(t, "a: (type).", decl("a", sort))
	over(t, "type", nil, sort)
	over(t, "(type)", nil, sort)
	for _, s := range []string{"type type", "type z", "type q", "type (z)", "type (q)", "type (type)", "type _", "type (", "type ()", "type z z",
		"s type", "s z type", "s type z", "s (z) type", "z type", "nat type", "[x] x type", "[x] type x", "(type z)", "s (type z)", "s (s type)",
		"{x: type z} nat", "{x: nat} type z", "{x: s type} nat", "{x: nat} x type", "[type] type type", "[type] s type"} {
		refuseTerm(t, s, api.ErrSyntax)
	}
	// A family of that name can't be had, and one that is handed in is not asked for.
	was := sig(decl("type", fam(7)), decl("a", sort))
	over(t, "type", was, sort)
	over(t, "a (type)", was, fam(1, sort))
	refuseOver(t, "a type", was, api.ErrSyntax)
	refuseOver(t, "type a", was, api.ErrSyntax)
}

// What binds may have any name of chapter 13's.
func TestNamesThatAreBound(t *testing.T) {
	for _, name := range []string{"x", "_", "__", "_0", "'", "0", "x'", repeat("a", 40), repeat("a", 41), repeat("_", 4000), "nat", "s", "new", "types"} {
		holdTerm(t, "["+name+"]"+name, lam(vari(0)))
		holdTerm(t, "["+name+"]z "+name, lam(con(1, vari(0))))
		holdTerm(t, "["+name+"]z ("+name+" z)", lam(con(1, vari(0, con(1)))))
		holdTerm(t, "{"+name+":z}"+name, pi(con(1), vari(0)))
		holdTerm(t, "["+name+"]{"+name+":"+name+"}"+name, lam(pi(vari(0), vari(0))))
	}
	// To bind type changes nothing of what that is.
	holdTerm(t, "[type] type", lam(sort))
	holdTerm(t, "{type: nat} type", pi(fam(0), sort))
	holdTerm(t, "{type: type} type", pi(sort, sort))
	holdTerm(t, "[type] z (type)", lam(con(1, sort)))
	holdTerm(t, "[x][type] x", lam(lam(vari(1))))
	holdTerm(t, "{type: nat} [x] {type: x} x", pi(fam(0), lam(pi(vari(0), vari(1)))))
}

// The nearest node that binds a name, else the first declaration.
func TestWhatANameIs(t *testing.T) {
	nat, z := fam(0), con(1)
	for text, want := range map[string]api.Term{
		"[z] z":                          lam(vari(0)),
		"[z] s z":                        lam(con(2, vari(0))),
		"[s] s z":                        lam(vari(0, z)),
		"[s][z] s z":                     lam(lam(vari(1, vari(0)))),
		"[x][x] x":                       lam(lam(vari(0))),
		"[x][x][x] x":                    lam(lam(lam(vari(0)))),
		"[x] x ([x] x) x":                lam(vari(0, lam(vari(0)), vari(0))),
		"[x] x ([y] x y) x":              lam(vari(0, lam(vari(1, vari(0))), vari(0))),
		"[x][y][x] x y":                  lam(lam(lam(vari(0, vari(1))))),
		"[x][y][x] y x":                  lam(lam(lam(vari(1, vari(0))))),
		"[x][_][_] _ x":                  lam(lam(lam(vari(0, vari(2))))),
		"{x: nat} {x: le x x} le x x":    pi(nat, pi(fam(3, vari(0), vari(0)), fam(3, vari(0), vari(0)))),
		"{nat: nat} nat":                 pi(nat, vari(0)),
		"{nat: nat} {nat: nat} nat":      pi(nat, pi(vari(0), vari(0))),
		"{z: s z} s z":                   pi(con(2, z), con(2, vari(0))),
		"[x] {x: x} x":                   lam(pi(vari(0), vari(0))),
		"[x] {y: x} x":                   lam(pi(vari(0), vari(1))),
		"{x: {x: nat} x} x":              pi(pi(nat, vari(0)), vari(0)),
		"{x: {y: nat} y} {y: x} y x":     pi(pi(nat, vari(0)), pi(vari(0), vari(0, vari(1)))),
		"{x: [z] z} z":                   pi(lam(vari(0)), z),
		"s ([z] z) z":                    con(2, lam(vari(0)), z),
		"s ({z: nat} z) z":               con(2, pi(nat, vari(0)), z),
		"s ([z] s z ([s] s z) (s z))":    con(2, lam(con(2, vari(0), lam(vari(0, vari(1))), con(2, vari(0))))),
		"([z] z)":                        lam(vari(0)),
		"[new] new":                      lam(vari(0)),
		"{x: nat} {y: nat} {x: nat} x y": pi(nat, pi(nat, pi(nat, vari(0, vari(1))))),
	} {
		holdTerm(t, text, want)
	}
	// What a Pi binds is so in its last TERM alone, and what is bound in ( ), or in the first TERM, not behind that.
	for _, text := range []string{"{x: x} nat", "{x: s x} x", "{x: {y: nat} nat} y", "{x: [y] y} y", "{x: {x: x} nat} nat", "{x: nat} {y: y} nat", "s ([x] x) x", "s ({x: nat} x) x",
		"[y] s ([x] y x) x", "{x: {y: nat} le y y} le x y", "[x] {y: {u: x} u} u"} {
		refuseTerm(t, text, api.ErrScope)
	}
}

// A Fam where the declaration's type is a kind, else a Const: also as one of the others.
func TestFamiliesAndConstants(t *testing.T) {
	for _, x := range []struct {
		of     api.Term
		family bool
	}{
		{sort, true}, {pi(fam(0), sort), true}, {pi(fam(0), pi(fam(0), sort)), true}, {pi(sort, sort), true}, {pi(pi(fam(0), fam(0)), sort), true},
		{fam(0), false}, {pi(fam(0), fam(0)), false}, {pi(sort, fam(0)), false}, {pi(pi(fam(0), sort), fam(0)), false},
		{lam(sort), false}, {con(0), false}, {vari(0), false}, {node(api.Meta, 0), false}, {fam(0, sort), false}, {con(0, sort), false},
	} {
		head := func(args ...api.Term) api.Term {
			if x.family {
				return fam(1, args...)
			}
			return con(1, args...)
		}
		ahead := sig(decl("a", sort), decl("b", x.of), decl("c", fam(0)))
		over(t, "b", ahead, head())
		over(t, "(b)", ahead, head())
		over(t, "b b", ahead, head(head()))
		over(t, "b c b", ahead, head(con(2), head()))
		over(t, "c b (b c)", ahead, con(2, head(), head(con(2))))
		over(t, "[x] x b", ahead, lam(vari(0, head())))
		over(t, "{x: b} b x", ahead, pi(head(), head(vari(0))))
	}
	hold(t, "a: type. b: {x: a} type. c: b. d: [x] type. e: c a b c d. f: a b.",
		decl("a", sort), decl("b", pi(fam(0), sort)), decl("c", fam(1)), decl("d", lam(sort)), decl("e", con(2, fam(0), fam(1), con(2), con(3))), decl("f", fam(0, fam(1))))
}

// The first declaration that has a name, whatever declarations are handed in.
func TestTermOverAnyDeclarations(t *testing.T) {
	twice := sig(decl("a", sort), decl("b", fam(0)), decl("a", fam(0)), decl("b", sort), decl("c", fam(0)))
	over(t, "a", twice, fam(0))
	over(t, "b", twice, con(1))
	over(t, "a b c", twice, fam(0, con(1), con(4)))
	over(t, "c a (b a)", twice, con(4, fam(0), con(1, fam(0))))
	long := repeat("a", 41)
	none := sig(decl("_", sort), decl("_a", fam(0)), decl(long, fam(0)), decl("", sort), decl("a b", sort), decl("(", sort), decl(".", sort), decl("type", sort), decl("a-", sort))
	over(t, "_", none, fam(0))
	over(t, "_a", none, con(1))
	over(t, long+" _", none, con(2, fam(0)))
	over(t, "[_] _ _a", none, lam(vari(0, con(1))))
	refuseOver(t, "a b", none, api.ErrScope)
	refuseOver(t, "_ .", none, api.ErrSyntax)
	refuseOver(t, "a", nil, api.ErrScope)
	refuseOver(t, "a", []api.Decl{}, api.ErrScope)
	refuseOver(t, "", none, api.ErrSyntax)
	over(t, "[x] x", nil, lam(vari(0)))
	over(t, "[x] x", []api.Decl{}, lam(vari(0)))
	// However many they are: the limit is of those of a text.
	for _, n := range []int{1, 39, 40, 41, 42, 100, 1000, 100000} {
		many := sig(decl("nat", sort))
		for i := range n {
			many = append(many, decl("a"+number(i), fam(0)))
		}
		over(t, "nat", many, fam(0))
		over(t, "a"+number(n-1), many, con(n))
		over(t, "[x] a0 nat (a"+number(n-1)+" x)", many, lam(con(1, fam(0), con(n, vari(0)))))
		refuseOver(t, "a"+number(n), many, api.ErrScope)
	}
}

// What a name is in one declaration hangs on those ahead alone.
func TestScopeOfDeclarations(t *testing.T) {
	for _, s := range []string{"a: a.", "a: b. b: type.", "a: type. b: {x: b} a.", "a: type. b: [x] b.", "a: type. b: c. c: a.", "a: type. b: a b.", "a: type. b: a c. c: a.",
		"a: type. b: (b).", "a: {x: a} type.", "a: {x: type} a.", "z: nat.", "z: nat. nat: type.", "a: type. b: a (a b). ", "a: _.", "a: '."} {
		refuse(t, s, api.ErrScope)
	}
	hold(t, "a: [a] a.", decl("a", lam(vari(0))))
	hold(t, "a: {b: type} b. b: a.", decl("a", pi(sort, vari(0))), decl("b", con(0)))
	hold(t, "a: type. b: {a: a} a. c: a b.", decl("a", sort), decl("b", pi(fam(0), vari(0))), decl("c", fam(0, con(1))))
}
