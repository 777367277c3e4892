package parse_test

import (
	"slices"
	"strings"
	"testing"

	"amanuensis/api"
	"amanuensis/parse"
)

// P14.2: lex's error.

func TestWhatLexRefuses(t *testing.T) {
	for _, bad := range []string{"-", "\r", "\x00", "\x7f", "\"", "\u00e9", "\x80", "\xff", "\u00a0"} {
		for _, s := range []string{bad, "a: type." + bad, bad + "a: type.", "a: " + bad + " type.", "a: type. % " + bad + "\n" + bad} {
			refuse(t, s, api.ErrSyntax)
			refuseOver(t, s, systemSig(), api.ErrSyntax)
		}
		// Also where the text is wrong ahead of that place, in another way.
		for _, s := range []string{"a: q. ", "q", "a: s q (", tooNested() + " ", "a: " + tooNested() + ". ", "a: " + tooDeep() + ". ", many(41)} {
			refuse(t, s+bad, api.ErrSyntax)
			refuseOver(t, s+bad, systemSig(), api.ErrSyntax)
			refuseOver(t, s+bad, nil, api.ErrSyntax)
		}
		hold(t, "% "+bad+"\na: type. %"+bad, decl("a", sort))
	}
}

func TestTextsThatAreTooLong(t *testing.T) {
	for _, s := range []string{"", "a: type.", system, "z", "_: type.", "a: q.", "q", "-", "a: -", ")", "(", "a: type. a: type.", "a type", tooNested(), many(41)} {
		for _, more := range []string{" ", "\n", "%", "-", ")", "\xff", " q"} {
			long := s + repeat(more, 20001)
			refuse(t, long, api.ErrLimit)
			refuse(t, long[:20001], api.ErrLimit)
			refuseOver(t, long, systemSig(), api.ErrLimit)
			refuseOver(t, long[:20001], nil, api.ErrLimit)
		}
	}
	hold(t, system+repeat(" ", 20000-len(system)), systemSig()...)
	hold(t, repeat("\n", 20000-len(system))+system, systemSig()...)
	over(t, repeat(" ", 19999)+"z", systemSig(), con(1))
	over(t, "z%"+repeat("-", 19998), systemSig(), con(1))
	refuse(t, repeat("a", 20000), api.ErrSyntax)
	refuse(t, repeat("(", 20000), api.ErrSyntax)
	refuseOver(t, repeat("a", 20000), systemSig(), api.ErrScope)
	refuseOver(t, repeat("(", 20000), systemSig(), api.ErrLimit)
}

// P14.2: what must stand there, and does not.

func TestWhatMustStandInADeclaration(t *testing.T) {
	for _, s := range []string{
		// No name.
		": type.", ".", ")", "(a): type.", "[a]: type.", "{a}: type.", ". a: type.", "% a\n: type.", "a: type.. b: type.", "a: type. : a.", "a: type. (b: a).",
		// No colon.
		"a", "a type.", "a.", "a(type).", "a b: type.", "a{x: type} type.", "a[x] x.", "a) type.", "a. type.", "a: type. b a.", "a: type. b. a.",
		// No TERM.
		"a:", "a: .", "a: ).", "a: ].", "a: }.", "a: :.", "a:: type.", "a: . type.", "a: type. b:.",
		// No full stop.
		"a: type", "a: (type)", "a: type b: type.", "a: type)", "a: type).", "a: type].", "a: type}.", "a: type: type.", "a: type b", "a: [x] x", "a: {x: type} x", "a: type. b: a", "a: type. b: a a: a.",
		"a: type [x] x.", "a: type {x: type} x.", "a: (type) [x] x.",
	} {
		refuse(t, s, api.ErrSyntax)
		refuse(t, " "+s+" % a note", api.ErrSyntax)
		refuse(t, system+strings.ReplaceAll(strings.ReplaceAll(s, "a", "new"), "b", "old"), api.ErrSyntax)
	}
}

func TestWhatMustStandInATerm(t *testing.T) {
	for _, s := range []string{
		// Nothing at all, and what begins no TERM.
		"", ")", "]", "}", ":", ": z", ") z", "] x", "} nat",
		// No name behind [ or {.
		"[", "[]", "[] z", "[ [x] x", "[(x)] x", "[.] x", "[:] x", "[{x] x", "{", "{}", "{} nat", "{: nat} nat", "{(x): nat} nat", "{[x]: nat} nat", "{{x: nat} nat} nat", "{.",
		// No ] behind that, or no colon.
		"[x", "[x x", "[x z] x", "[x) x", "[x} x", "[x: nat] x", "[x. x", "[x [y] y", "[x]]", "{x", "{x nat} nat", "{x} nat", "{x) nat", "{x] nat", "{x. nat} nat", "{x {y: nat} nat", "{x (nat)} nat",
		// No TERM behind that.
		"[x]", "[x] )", "[x] ]", "[x] :", "[x] }", "[x][y]", "{x:", "{x: } nat", "{x:) nat", "{x: ] nat", "{x:: nat} nat", "{x: [y]} nat", "{x: {y: nat}} nat", "{x: .} nat",
		// No }, or no TERM behind that.
		"{x: nat", "{x: nat nat", "{x: nat) nat", "{x: nat] nat", "{x: nat: nat", "{x: nat. nat", "{x: nat {y: nat} nat} nat", "{x: nat [y] y} nat", "{x: nat}", "{x: nat} )", "{x: nat} }", "{x: nat} :", "{x: nat}{y: nat}", "{x: nat} [y]",
		// ( ) that are empty, or not as many of one as of the other.
		"()", "( )", "(% a note\n)", "s ()", "s z ()", "s () z", "(())", "([x])", "({x: nat})", "(", "((", "(z", "s (", "s (z", "((z)", "s ((z)", "(s z", "([x] x", "(z]", "(z}", "(z:)", "(z.)", "s (z] z", "z)", "(z))", "s z)", "s (z))", "s )", "[x] x)", "{x: nat) nat", "({x: nat) nat)", "([x) x)",
		// A mark where an ATOM might stand.
		"s ]", "s }", "s :", "s z ]", "s z }", "s z :", "s [", "s {", "s z [", "s z {", "z: z", "z: nat", "s (z) ]", "s (z) :", "(z) :",
	} {
		refuseTerm(t, s, api.ErrSyntax)
		refuseTerm(t, "("+s+"(", api.ErrSyntax)
		refuseTerm(t, "[y]"+s+" % a note\n", api.ErrSyntax)
		refuseTerm(t, "{y: "+s+" ] ", api.ErrSyntax)
	}
}

// A text that ends too early lacks something, wherever it ends.
func TestTheEndAtEachPlace(t *testing.T) {
	toks := strings.Fields("a : type . f : { x : a } { y : ( a ) } a . g : [ x ] f ( f x ( f ) ) x ( [ y ] { z : y } ( ( z ) ) ) .")
	for n := range toks {
		s := strings.Join(toks[:n], " ")
		switch n {
		case 0:
			hold(t, s)
		case 4:
			hold(t, s, decl("a", sort))
		case 20:
			hold(t, s, decl("a", sort), decl("f", pi(fam(0), pi(fam(0), fam(0)))))
		default:
			refuse(t, s, api.ErrSyntax)
			refuse(t, s+" % a note", api.ErrSyntax)
		}
	}
	term := toks[22 : len(toks)-1]
	ahead := sig(decl("a", sort), decl("f", pi(fam(0), pi(fam(0), fam(0)))))
	whole := lam(con(1, con(1, vari(0), con(1)), vari(0), lam(pi(vari(0), vari(0)))))
	over(t, strings.Join(term, " "), ahead, whole)
	for n := range term {
		s := strings.Join(term[:n], " ")
		switch n {
		case 4:
			over(t, s, ahead, lam(con(1)))
		case 11:
			over(t, s, ahead, lam(con(1, con(1, vari(0), con(1)))))
		case 12:
			over(t, s, ahead, lam(con(1, con(1, vari(0), con(1)), vari(0))))
		default:
			refuseOver(t, s, ahead, api.ErrSyntax)
		}
	}
}

// The term of a text is all of it.
func TestWhatStandsBehindATerm(t *testing.T) {
	for _, s := range []string{"z", "s z", "(z)", "s (z)", "[x] x", "{x: nat} nat", "type", "(type)", "nat", "([x] x)"} {
		for _, behind := range []string{".", ". .", ")", "]", "}", ":", ". z", ". b: nat.", ": nat.", "[", "{", "[y] y", "{y: nat} nat", ". q", ") q", ": q"} {
			refuseOver(t, s+behind, systemSig(), api.ErrSyntax)
			refuseOver(t, s+" "+behind, systemSig(), api.ErrSyntax)
		}
	}
	for _, s := range []string{"z: nat.", "nat: type.", "a: type.", system} {
		want := api.ErrSyntax
		if s[0] == 'a' {
			want = api.ErrScope
		}
		refuseOver(t, s, systemSig(), want)
		refuseOver(t, s, nil, api.ErrScope)
	}
}

// A name that is declared is none.

func TestANameThatIsDeclaredAlready(t *testing.T) {
	for _, s := range []string{"a: type. a: type.", "a: type. a: a.", "a: type. b: a. a: type.", "a: type. b: a. b: a.", "a: type. b: a. c: a. d: a. a: b.", "a: type. b: a. c: b. b: a. c: b.",
		"a: type. a: q.", "a: type. a", "a: type. a: ", "a: type. a: (", "a: [a] a. a: type.", "0: type. ': 0. 0: 0.", system + "z: nat.", system + "nat: type.", "a: type. b: {x: a} a. a: -. "} {
		refuse(t, s, api.ErrSyntax)
	}
	// A name that is bound only may be declared, before and behind.
	hold(t, "a: {b: type} b. b: a. c: [a][c] a.", decl("a", pi(sort, vari(0))), decl("b", con(0)), decl("c", lam(lam(vari(1)))))
}

func TestNamesThatAreAlike(t *testing.T) {
	hold(t, "a: type. A: a. a': a. a_: a. aa: a. a0: a. 'a: a. "+repeat("a", 40)+": a. "+repeat("a", 39)+": a. "+repeat("a", 39)+"b: a.",
		decl("a", sort), decl("A", fam(0)), decl("a'", fam(0)), decl("a_", fam(0)), decl("aa", fam(0)), decl("a0", fam(0)), decl("'a", fam(0)),
		decl(repeat("a", 40), fam(0)), decl(repeat("a", 39), fam(0)), decl(repeat("a", 39)+"b", fam(0)))
	refuseTerm(t, "Z", api.ErrScope)
	refuseTerm(t, "z'", api.ErrScope)
	refuseTerm(t, "zz", api.ErrScope)
	refuseTerm(t, "na", api.ErrScope)
	refuseTerm(t, "[x] X", api.ErrScope)
	refuseTerm(t, "["+repeat("a", 41)+"]"+repeat("a", 40), api.ErrScope)
	refuseTerm(t, "["+repeat("a", 41)+"]"+repeat("a", 42), api.ErrScope)
}

// P14.2: a head that is bound by nothing, and declared by none ahead.

func TestHeadsInNoScope(t *testing.T) {
	for _, q := range []string{"q", "_", "_0", "'", "0", "Type", "types", repeat("q", 40), repeat("q", 41), repeat("q", 3000)} {
		for _, s := range []string{q, q + " z", q + " (z)", q + " " + q, "(" + q + ")", "s " + q, "s z " + q, "s (" + q + ")", "s (" + q + " z)", "s (z) " + q + " z", "s " + q + " (z)",
			"[x]" + q, "[x] x " + q, "[x] x (" + q + ")", "{x: " + q + "} nat", "{x: nat}" + q, "{x: s " + q + "} nat", "{x: nat} s " + q, "[x] {y: " + q + " x} x", "[x] {y: x} " + q + " y"} {
			refuseTerm(t, s, api.ErrScope)
		}
		refuseOver(t, q, nil, api.ErrScope)
		// Once it is bound, there is none.
		holdTerm(t, "["+q+"]"+q, lam(vari(0)))
		refuseTerm(t, "s (["+q+"]"+q+")"+q, api.ErrScope)
	}
}

// P14.2: limits.

// within is so many of one thing around another one.
func within(open string, n int, inner, end string) string {
	return repeat(open, n) + inner + repeat(end, n)
}

// tooNested is a TERM with 121, one in the other, tooDeep one of a term that is a node too deep, tooLarge one that has a node too many.
func tooNested() string { return within("(", 120, "type", ")") }

func tooDeep() string { return repeat("[x]", 60) + "x" }

func tooLarge() string { return "[x] x" + repeat(" x", 3999) }

// many are declarations, so many of them.
func many(n int) string {
	var s strings.Builder
	for i := range n {
		s.WriteString("many" + number(i) + ": type. ")
	}
	return s.String()
}

// nest is what makes one TERM be in another: what stands ahead of the inner one, and what behind; and what node it makes of that.
type nest struct {
	open, end string
	of        func(t api.Term) api.Term
}

func nests() map[string]nest {
	nat, z := fam(0), con(1)
	return map[string]nest{
		"alone in ( )":           {"(", ")", func(t api.Term) api.Term { return t }},
		"the second ATOM":        {"s (", ")", func(t api.Term) api.Term { return con(2, t) }},
		"the last ATOM":          {"s z (", ")", func(t api.Term) api.Term { return con(2, z, t) }},
		"an ATOM between":        {"s (z) (", ") z", func(t api.Term) api.Term { return con(2, z, t, z) }},
		"the first TERM of a Pi": {"{x: ", "} nat", func(t api.Term) api.Term { return pi(t, nat) }},
		"the last TERM of a Pi":  {"{x: nat} ", "", func(t api.Term) api.Term { return pi(nat, t) }},
		"the TERM of a Lam":      {"[x] ", "", lam},
	}
}

// Of each sort, in as many as are in order but for a head that there is not, in the inmost one: it is told that there are too many ahead of that.
func TestTermsThatAreOneInTheOther(t *testing.T) {
	for name, x := range nests() {
		t.Run(name, func(t *testing.T) {
			want := con(1)
			for n := range 123 {
				inner, e := "z q", api.ErrScope
				if n+1 > 120 {
					e = api.ErrLimit
				}
				refuseTerm(t, within(x.open, n, inner, x.end), e)
				refuseTerm(t, repeat(x.open, n)+inner, e)
				switch {
				case n+1 > 120 || depth(want) > 60:
					refuseTerm(t, within(x.open, n, "z", x.end), api.ErrLimit)
				default:
					holdTerm(t, within(x.open, n, "z", x.end), want)
				}
				want = x.of(want)
			}
		})
	}
}

// depth is how many nodes are on the longest way down.
func depth(t api.Term) int {
	most := 0
	for _, a := range t.Args {
		most = max(most, depth(a))
	}
	return most + 1
}

// Sorts that change off: each one within a ( ), so that the term of 120 TERMs is just as deep as it may be.
func TestTermsOneInTheOtherAsDeepAsTheyMayBe(t *testing.T) {
	for name, x := range nests() {
		want := con(1)
		for range 59 {
			want = x.of(want)
		}
		if depth(want) != 60 && name != "alone in ( )" {
			t.Fatal(name, depth(want))
		}
		both := within("("+x.open, 59, "(z)", x.end+")")
		holdTerm(t, both, want)
		refuseTerm(t, "("+both+")", api.ErrLimit)
		refuseTerm(t, within("("+x.open, 59, "((z))", x.end+")"), api.ErrLimit)
		refuseTerm(t, "[x]"+both, api.ErrLimit)
	}
	d := dice(120)
	var all []nest
	for _, name := range []string{"the second ATOM", "the last ATOM", "an ATOM between", "the first TERM of a Pi", "the last TERM of a Pi", "the TERM of a Lam"} {
		all = append(all, nests()[name])
	}
	for range 300 {
		s, want := "z", con(1)
		parens := 61
		for range 58 {
			x := all[d.below(len(all))]
			s, want = x.open+s+x.end, x.of(want)
			n := min(parens, d.below(3))
			s, parens = within("(", n, s, ")"), parens-n
		}
		s = within("(", parens, s, ")")
		holdTerm(t, s, want)
		refuseTerm(t, "("+s+")", api.ErrLimit)
	}
}

// TERMs beside one another, and names that are ATOMs, are not one in the other.
func TestTermsBesideOneAnother(t *testing.T) {
	args := func(n int, a api.Term) []api.Term { return slices.Repeat([]api.Term{a}, n) }
	holdTerm(t, "s"+repeat(" (z)", 3999), con(2, args(3999, con(1))...))
	holdTerm(t, "s"+repeat(" z", 3999), con(2, args(3999, con(1))...))
	holdTerm(t, "s"+repeat(" ((((z))))", 1000), con(2, args(1000, con(1))...))
	holdTerm(t, "s"+repeat(" ([x] x)", 1000), con(2, args(1000, lam(vari(0)))...))
	holdTerm(t, within("(", 119, "s"+repeat(" z", 1000), ")"), con(2, args(1000, con(1))...))
	holdTerm(t, within("(", 118, "s"+repeat(" (z)", 1000), ")"), con(2, args(1000, con(1))...))
	refuseTerm(t, within("(", 119, "s (z)", ")"), api.ErrLimit)
	holdTerm(t, "{x:"+within("(", 118, "nat", ")")+"}"+within("(", 118, "nat", ")"), pi(fam(0), fam(0)))
	holdTerm(t, "s "+repeat(within("(", 119, "z", ")"), 40), con(2, args(40, con(1))...))
	refuseTerm(t, "s "+repeat(within("(", 119, "z", ")"), 40)+within("(", 120, "z", ")"), api.ErrLimit)
	hold(t, repeatDecls("a", 40, within("(", 119, "type", ")")), decls("a", 40, sort)...)
}

// repeatDecls are declarations of one TERM, with names that begin so; decls are these.
func repeatDecls(name string, n int, s string) string {
	var b strings.Builder
	for i := range n {
		b.WriteString(name + number(i) + ":" + s + ".\n")
	}
	return b.String()
}

func decls(name string, n int, t api.Term) []api.Decl {
	var l []api.Decl
	for i := range n {
		l = append(l, decl(name+number(i), t))
	}
	return l
}

// A token that is wrong, or a text that ends, where the TERM too many would begin is what is told: rule R2.
func TestWhereATermTooManyBegins(t *testing.T) {
	for _, x := range nests() {
		open := repeat(x.open, 119) + "("
		for _, s := range []string{")", "]", "}", ":", ""} {
			refuseTerm(t, open+s, api.ErrSyntax)
			refuseTerm(t, open+"("+s, api.ErrLimit)
		}
		refuseTerm(t, open+"q", api.ErrScope)
		refuseTerm(t, open+"(q", api.ErrLimit)
		for _, s := range []string{"z", "type", "(", "[", "{", "[x] x", "[]", "{x", "type type", "()", "z q", "(q)"} {
			refuseTerm(t, open+s, api.ErrLimit)
		}
	}
	refuseTerm(t, repeat("[x]", 120)+"x", api.ErrLimit)
	refuseTerm(t, repeat("[x]", 120)+"y", api.ErrScope)
	refuseTerm(t, repeat("(", 20000-len(system)-6), api.ErrLimit)
	refuseTerm(t, repeat("[x]", 6000), api.ErrLimit)
	refuseTerm(t, repeat("{x:", 6000), api.ErrLimit)
	refuseTerm(t, repeat("{x:nat}", 2500), api.ErrLimit)
	refuseTerm(t, repeat("s(", 9000), api.ErrLimit)
}

// A term that may not be: too deep, by each sort of node.
func TestTermsThatAreTooDeep(t *testing.T) {
	for name, x := range nests() {
		if name == "alone in ( )" {
			continue
		}
		want := con(1)
		for n := range 100 {
			s := within(x.open, n, "z", x.end)
			if n+1 <= 60 {
				holdTerm(t, s, want)
			} else {
				refuseTerm(t, s, api.ErrLimit)
				refuse(t, system+"new: "+s+". old: nat.", api.ErrLimit)
			}
			want = x.of(want)
		}
	}
	holdTerm(t, repeat("[x]", 59)+"type", lams(59, sort))
	holdTerm(t, repeat("[x]", 58)+"s z", lams(58, con(2, con(1))))
	refuseTerm(t, repeat("[x]", 59)+"s z", api.ErrLimit)
	refuseTerm(t, repeat("[x]", 59)+"x x", api.ErrLimit)
	refuseTerm(t, tooDeep(), api.ErrLimit)
	refuseTerm(t, "("+tooDeep()+")", api.ErrLimit)
	refuseTerm(t, "s ("+tooDeep()+") z", api.ErrLimit)
}

// lams is a term below so many Lams.
func lams(n int, t api.Term) api.Term {
	for range n {
		t = lam(t)
	}
	return t
}

// A term that may not be: too many nodes.
func TestTermsThatAreTooLarge(t *testing.T) {
	z := con(1)
	args := func(n int, a api.Term) []api.Term { return slices.Repeat([]api.Term{a}, n) }
	for _, x := range []struct {
		text string
		want api.Term
	}{
		{"s" + repeat(" z", 3999), con(2, args(3999, z)...)},
		{"[x] x" + repeat(" x", 3998), lam(vari(0, args(3998, vari(0))...))},
		{"[x] x" + repeat(" (x)", 3998), lam(vari(0, args(3998, vari(0))...))},
		{"{x: nat} nat" + repeat(" x", 3997), pi(fam(0), fam(0, args(3997, vari(0))...))},
		{"{x: nat" + repeat(" z", 3997) + "} nat", pi(fam(0, args(3997, z)...), fam(0))},
		{"nat z" + repeat("(s z)", 1999), fam(0, append(args(1, z), args(1999, con(2, z))...)...)},
		{"z" + repeat("([x]x)", 1999) + "z", con(1, append(args(1999, lam(vari(0))), z)...)},
		{"z" + repeat("([x][x]x)", 1333), con(1, args(1333, lams(2, vari(0)))...)},
		{"s(s" + repeat(" z", 1999) + ")(s" + repeat(" z", 1998) + ")", con(2, con(2, args(1999, z)...), con(2, args(1998, z)...))},
	} {
		holdTerm(t, x.text, x.want)
		refuseTerm(t, "[u]"+x.text, api.ErrLimit)
		refuseTerm(t, "{u: nat"+repeat(" z", 3990)+"}"+x.text, api.ErrLimit)
		if !strings.HasSuffix(x.text, "} nat") {
			refuseTerm(t, x.text+" z", api.ErrLimit)
			refuseTerm(t, x.text+"(z)", api.ErrLimit)
		}
		// It is of one TERM, however many there are.
		l := append(systemSig(), decl("old", x.want))
		hold(t, system+"old: "+x.text+". new: nat.", append(l, decl("new", fam(0)))...)
	}
	refuseTerm(t, tooLarge(), api.ErrLimit)
	refuseTerm(t, "s"+repeat(" z", 9000), api.ErrLimit)
	both := "s" + repeat(" z", 3999)
	hold(t, system+"a: "+both+". b: "+both+".", append(systemSig(), decl("a", con(2, args(3999, z)...)), decl("b", con(2, args(3999, z)...)))...)
	refuse(t, system+"a: "+both+". b: "+both+" z.", api.ErrLimit)
	refuse(t, system+"a: "+both+" z. b: nat.", api.ErrLimit)
}

// More than 40 declarations: told when the next one begins.
func TestHowManyDeclarations(t *testing.T) {
	for n := range 41 {
		hold(t, many(n), decls("many", n, sort)...)
		hold(t, many(n)+" % a note\n\t% b", decls("many", n, sort)...)
	}
	for n := 41; n < 200; n++ {
		refuse(t, many(n), api.ErrLimit)
	}
	refuse(t, many(1000), api.ErrLimit)
	for _, next := range []string{
		"a: type.", "a: type", "a:", "a", "a: many0.", "a: q.", "a: s q.", "a: ).", "a: type type.", "a type.", "a: " + tooNested() + ".", "a: " + tooDeep() + ".", "a: " + tooLarge() + ".",
		"many0: type.", "many39: type.", "many40: type.", "_: type.", "_a: type.", "type: type.", repeat("a", 41) + ": type.", "type", "_", "many0", ".", ":", "(", ")", "[", "]", "{", "}", ": type.", "(a): type.", ". a: type.",
	} {
		refuse(t, many(40)+next, api.ErrLimit)
		refuse(t, many(40)+"% a note\n"+next+" b: type.", api.ErrLimit)
		refuse(t, many(41)+next, api.ErrLimit)
	}
	// What is wrong ahead of the next one is told first.
	for next, want := range map[string]api.Errno{"a: type": api.ErrSyntax, "a: q.": api.ErrScope, "a: type z.": api.ErrSyntax, "_: type.": api.ErrSyntax, "many0: type.": api.ErrSyntax, ")": api.ErrSyntax, "a": api.ErrSyntax,
		"a: " + tooNested() + ".": api.ErrLimit, "a: " + tooLarge() + ".": api.ErrLimit} {
		refuse(t, many(39)+next, want)
		refuse(t, many(39)+next+" b: type.", want)
		refuse(t, many(39)+next+" b: type. c: type.", want)
	}
	hold(t, many(39)+"a: {x: many38} many0.", append(decls("many", 39, sort), decl("a", pi(fam(38), fam(0))))...)
}

// P14.3: what is told first, from the left, is what is wrong.

// wrongDecls are declarations that are wrong, over the system, by what is told of each.
func wrongDecls() map[api.Errno][]string {
	return map[api.Errno][]string{
		api.ErrSyntax: {"_a: type. ", "type: type. ", "z: nat. ", "a nat. ", "a: . ", "a: ). ", "a: (z. ", "a: (z) z. ", "a: type z. ", "a: nat: nat. ", "a: s type. ", "a: {x nat} nat. ", "a: [x. ", ") "},
		api.ErrScope:  {"a: q. ", "a: s q. ", "a: q ). ", "a: {x: q} nat. ", "a: {x: nat} y. ", "a: a. ", "a: b ( "},
		api.ErrLimit:  {"a: " + tooNested() + ". ", "a: " + tooDeep() + ". ", "a: " + tooLarge() + ". ", "a: " + repeat("(", 121), "a: " + repeat("[x]", 121)},
	}
}

// wrongTerms are TERMs in ( ) that are wrong, over the system, so that it is told of them before they end.
func wrongTerms() map[api.Errno][]string {
	return map[api.Errno][]string{
		api.ErrSyntax: {"()", "(type z)", "((z) z)", "(type (q))", "((z) q)", "(s type)", "(])", "([x)", "([x])", "({x nat} nat)", "({x: nat) nat)", "(z]", "(z: q)", "(s (s (s () q)))"},
		api.ErrScope:  {"(q)", "(s q)", "([x] y)", "(q type)", "(q ])", "(q ()", "(s (s (s q ())))", "({x: x} q)", "(q (q)", "(q)(type type)"},
		api.ErrLimit:  {tooNested(), repeat("(", 121), "(" + repeat("[x]", 120), "(" + within("s (", 120, "z", ")") + " q)", "(" + repeat("{x:", 120) + "z z type"},
	}
}

func TestWhichIsToldFirst(t *testing.T) {
	for e, l := range wrongDecls() {
		for _, a := range l {
			refuse(t, system+a, e)
			for _, behind := range wrongDecls() {
				for _, b := range behind {
					refuse(t, system+a+b, e)
					refuse(t, system+"old: nat. "+a+b, e)
				}
			}
		}
	}
	for e, l := range wrongTerms() {
		for _, a := range l {
			refuseTerm(t, a, e)
			for _, behind := range wrongTerms() {
				for _, b := range behind {
					refuseTerm(t, "s "+a+b, e)
					refuseTerm(t, "s z"+a+" z "+b+" z", e)
					refuseTerm(t, "{x: "+a+"}"+b, e)
					refuseTerm(t, "[x] s (s z "+a+")"+b, e)
				}
			}
		}
	}
	for e, l := range wrongTerms() {
		for _, a := range l {
			for _, behind := range wrongDecls() {
				for _, b := range behind {
					refuse(t, system+"old: s "+a+". "+b, e)
				}
			}
		}
	}
}

func TestAHeadAndAPlaceThatIsNoSyntax(t *testing.T) {
	for s, want := range map[string]api.Errno{
		"q )": api.ErrScope, "q ]": api.ErrScope, "q :": api.ErrScope, "q (": api.ErrScope, "q ()": api.ErrScope, "q type": api.ErrScope, "q (type type)": api.ErrScope, "s q )": api.ErrScope, "s q type": api.ErrScope,
		"(q": api.ErrScope, "(q]": api.ErrScope, "(q) z": api.ErrScope, "[x] y )": api.ErrScope, "{x: q nat": api.ErrScope, "{x: q) nat": api.ErrScope, "{x: q} )": api.ErrScope, "{x: x} )": api.ErrScope,
		") q": api.ErrSyntax, "s ] q": api.ErrSyntax, "s () q": api.ErrSyntax, "s () (q)": api.ErrSyntax, "type q": api.ErrSyntax, "type (q)": api.ErrSyntax, "s type q": api.ErrSyntax, "(z) q": api.ErrSyntax, "(z) (q)": api.ErrSyntax,
		"((z) q": api.ErrSyntax, "(type q": api.ErrSyntax, "[x y] q": api.ErrSyntax, "[] q": api.ErrSyntax, "[q": api.ErrSyntax, "{q": api.ErrSyntax, "{x q} nat": api.ErrSyntax, "{x: nat) q": api.ErrSyntax, "{x: nat} ) q": api.ErrSyntax,
		"z: q": api.ErrSyntax, "z [x] q": api.ErrSyntax, "z {x: q} q": api.ErrSyntax, "(z) {x: q} q": api.ErrSyntax, "(z] q": api.ErrSyntax,
	} {
		refuseTerm(t, s, want)
		refuseTerm(t, "s z ("+s, want)
		refuseTerm(t, "[u] "+s, want)
		refuseTerm(t, "{u: nat} "+s, want)
		refuseTerm(t, "{u: "+s+"}", want)
	}
	refuse(t, "a: type. b: c ).", api.ErrScope)
	refuse(t, "a: type. b: a ). c: d.", api.ErrSyntax)
	refuse(t, "a b: c.", api.ErrSyntax)
	refuse(t, "_a: q.", api.ErrSyntax)
	refuse(t, "q", api.ErrSyntax)
}

// Whether a TERM may be is asked when it has been read, ahead of what must stand behind it.
func TestATermThatMayNotBeAndWhatIsBehindIt(t *testing.T) {
	for _, s := range []string{tooDeep(), tooLarge(), "s z" + repeat(" z", 4000)} {
		for _, behind := range []string{"", ".", ")", "]", "}", ":", ". q", ": q", ". )", "[y] y", "{y: q} y"} {
			refuseOver(t, s+behind, systemSig(), api.ErrLimit)
			refuse(t, system+"new: "+s+behind, api.ErrLimit)
		}
		for _, within := range []string{" q", " (q)", " x q"} {
			refuseTerm(t, s+within, api.ErrScope)
		}
		for _, within := range []string{" type", " ()", " (", " z (z"} {
			refuseTerm(t, s+within, api.ErrSyntax)
		}
		refuseTerm(t, "("+s, api.ErrSyntax)
		refuseTerm(t, "("+s+") z", api.ErrSyntax)
		refuseTerm(t, "{x: "+s+"} q", api.ErrScope)
		refuseTerm(t, "s ("+s+") type", api.ErrSyntax)
	}
	refuseTerm(t, tooLarge()+" "+repeat("(", 121), api.ErrLimit)
}

// R1: declarations whose types are anything at all.

func TestDeclarationsOfAnything(t *testing.T) {
	long := fam(0)
	for range 1 << 16 {
		long = pi(fam(0), long)
	}
	shared := sort
	for range 10000 {
		shared = pi(shared, shared)
	}
	for _, x := range []struct {
		of   api.Term
		kind int
	}{
		{api.Term{}, api.Fam}, {node(api.Sort, 5, fam(1)), api.Fam}, {node(api.Pi, 0), api.Const}, {node(api.Pi, 0, sort), api.Const}, {node(api.Pi, 0, fam(0), fam(0), sort), api.Const},
		{node(api.Pi, 7, fam(0), sort), api.Fam}, {node(-1, 3), api.Const}, {node(api.Kinds, 0, sort), api.Const}, {node(1<<62, -1<<62, node(-1<<62, 0)), api.Const}, {node(api.Lam, 0), api.Const},
		{vari(-1), api.Const}, {fam(-5), api.Const}, {fam(1 << 40), api.Const}, {pi(node(-1, -1), sort), api.Fam}, {pi(node(api.Pi, 0), fam(-1)), api.Const},
		{long, api.Const}, {shared, api.Fam},
	} {
		ahead := sig(decl("a", sort), decl("b", x.of), decl("b", sort), decl("c", fam(0)))
		over(t, "b", ahead, node(x.kind, 1))
		over(t, "c b (b c)", ahead, con(3, node(x.kind, 1), node(x.kind, 1, con(3))))
		over(t, "[b] b c", ahead, lam(vari(0, con(3))))
		over(t, "a c", ahead, fam(0, con(3)))
		refuseOver(t, "d", ahead, api.ErrScope)
		refuseOver(t, "b )", ahead, api.ErrSyntax)
		refuseOver(t, "", ahead, api.ErrSyntax)
	}
}

// R1: texts of any bytes, long ones too, are told of.
func TestTextsOfAnything(t *testing.T) {
	d := dice(14)
	for range 3000 {
		b := make([]byte, d.below(60))
		for i := range b {
			b[i] = byte(d.below(256))
		}
		l, e := parse.Decls(b)
		x, wrong := parse.Term(b, systemSig())
		if e != api.OK && len(l) != 0 || wrong != api.OK && !equal(x, api.Term{}) {
			t.Fatalf("%q: %v, %d; %v, %d", b, l, e, x, wrong)
		}
		parse.Name(string(b))
	}
	for _, s := range []string{"(", ")", "[", "]", "{", "}", ":", ".", "a ", "type ", "_ ", "[x]", "{x:", "{x:z}", "s(", "s (z", "(z)", "a:", "a:(", "a: type.", "a:type.b:"} {
		long := []byte(strings.Repeat(s, 20000/len(s)))
		if l, e := parse.Decls(long); e == api.OK || len(l) != 0 {
			t.Errorf("%q: %v, %d", short(string(long)), l, e)
		}
		if x, e := parse.Term(long, systemSig()); e == api.OK || !equal(x, api.Term{}) {
			t.Errorf("%q: %v, %d", short(string(long)), x, e)
		}
	}
}
