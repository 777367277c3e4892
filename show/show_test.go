package show_test

import (
	"slices"
	"strconv"
	"strings"
	"testing"

	"amanuensis/api"
	"amanuensis/parse"
	"amanuensis/show"
)

var sort = api.Term{Kind: api.Sort}

func node(kind, head int, args ...api.Term) api.Term {
	return api.Term{Kind: kind, Head: head, Args: args}
}

func pi(a, b api.Term) api.Term                { return node(api.Pi, 0, a, b) }
func lam(a api.Term) api.Term                  { return node(api.Lam, 0, a) }
func fam(head int, args ...api.Term) api.Term  { return node(api.Fam, head, args...) }
func vari(head int, args ...api.Term) api.Term { return node(api.Var, head, args...) }
func con(head int, args ...api.Term) api.Term  { return node(api.Const, head, args...) }
func met(head int, args ...api.Term) api.Term  { return node(api.Meta, head, args...) }

// lams is a term below so many Lams.
func lams(n int, t api.Term) api.Term {
	for range n {
		t = lam(t)
	}
	return t
}

func equal(a, b api.Term) bool {
	return a.Kind == b.Kind && a.Head == b.Head && slices.EqualFunc(a.Args, b.Args, equal)
}

func equalDecls(a, b []api.Decl) bool {
	return slices.EqualFunc(a, b, func(x, y api.Decl) bool { return x.Name == y.Name && equal(x.T, y.T) })
}

func decl(name string, t api.Term) api.Decl { return api.Decl{Name: name, T: t} }

func sig(l ...api.Decl) []api.Decl { return l }

// The system that most terms are over: a family nat 0, z 1 and s 2 of it, a family le 3 of two of it, and r 4, which is of an le.
func system() []api.Decl {
	nat := fam(0)
	return sig(decl("nat", sort), decl("z", nat), decl("s", pi(nat, nat)), decl("le", pi(nat, pi(nat, sort))),
		decl("r", pi(nat, fam(3, vari(0), vari(0)))))
}

const systemText = "nat : type.\nz : nat.\ns : {_0:nat}nat.\nle : {_0:nat}{_1:nat}type.\nr : {_0:nat}le _0 _0.\n"

func repeat(s string, n int) string { return strings.Repeat(s, n) }

func number(i int) string { return strconv.Itoa(i) }

// short is what of a text is told when a test fails.
func short[T string | []byte](s T) string {
	if len(s) > 300 {
		return string(s[:300]) + ".."
	}
	return string(s)
}

// over and refuseOver hold the text of a term over declarations, or its error, beside which nothing is told.
func over(t *testing.T, x api.Term, l []api.Decl, want string) {
	t.Helper()
	if b, e := show.Term(x, l); e != api.OK || string(b) != want {
		t.Errorf("the text of %v is %q, %d, not %q", short(spell(x)), short(b), e, short(want))
	}
}

func refuseOver(t *testing.T, x api.Term, l []api.Decl, want api.Errno) {
	t.Helper()
	if b, e := show.Term(x, l); e != want || len(b) != 0 {
		t.Errorf("the text of %v is %q, %d, not %d", short(spell(x)), short(b), e, want)
	}
}

// spell is what of a term is told when a test fails.
func spell(x api.Term) string {
	s := "(" + number(x.Kind) + " " + number(x.Head)
	for _, a := range x.Args {
		if len(s) > 300 {
			break
		}
		s += spell(a)
	}
	return s + ")"
}

// hold holds the text of a term over the system: by Term, and by Decls, as that of one more declaration.
func hold(t *testing.T, x api.Term, want string) {
	t.Helper()
	over(t, x, system(), want)
	holdDecls(t, append(system(), decl("new", x)), systemText+"new : "+want+".\n")
}

// refuse is refuseOver of a term over the system, as hold has it.
func refuse(t *testing.T, x api.Term, want api.Errno) {
	t.Helper()
	refuseOver(t, x, system(), want)
	refuseDecls(t, append(system(), decl("new", x)), want)
	refuseDecls(t, append(append(system(), decl("new", x)), decl("old", sort)), want)
}

func holdDecls(t *testing.T, l []api.Decl, want string) {
	t.Helper()
	if b, e := show.Decls(l); e != api.OK || string(b) != want {
		t.Errorf("the text of %d declarations is %q, %d, not %q", len(l), short(b), e, short(want))
	}
}

func refuseDecls(t *testing.T, l []api.Decl, want api.Errno) {
	t.Helper()
	if b, e := show.Decls(l); e != want || len(b) != 0 {
		t.Errorf("the text of %d declarations is %q, %d, not %d", len(l), short(b), e, want)
	}
}

// P15.1, of a term.

func TestTheChaptersExample(t *testing.T) {
	hold(t, lam(con(2, vari(0))), "[_0]s _0")
	hold(t, lam(con(2, con(2, vari(0)))), "[_0]s(s _0)")
}

func TestTermsWithoutArgs(t *testing.T) {
	hold(t, sort, "type")
	hold(t, node(api.Sort, 0, []api.Term{}...), "type")
	hold(t, api.Term{Kind: api.Const, Head: 1, Args: []api.Term{}}, "z")
	for i, d := range system() {
		hold(t, fam(i), d.Name)
		hold(t, con(i), d.Name)
	}
	hold(t, lam(vari(0)), "[_0]_0")
	over(t, sort, nil, "type")
	over(t, lam(vari(0)), nil, "[_0]_0")
}

func TestTermsWithArgs(t *testing.T) {
	z := con(1)
	for _, x := range []struct {
		of   func(args ...api.Term) api.Term
		name string
	}{
		{func(args ...api.Term) api.Term { return con(2, args...) }, "s"},
		{func(args ...api.Term) api.Term { return con(3, args...) }, "le"},
		{func(args ...api.Term) api.Term { return fam(3, args...) }, "le"},
		{func(args ...api.Term) api.Term { return fam(0, args...) }, "nat"},
	} {
		hold(t, x.of(z), x.name+" z")
		hold(t, x.of(z, z), x.name+" z z")
		hold(t, x.of(z, con(2, z), z), x.name+" z(s z)z")
		hold(t, x.of(con(2, z), con(2, z)), x.name+"(s z)(s z)")
		hold(t, x.of(slices.Repeat([]api.Term{z}, 100)...), x.name+repeat(" z", 100))
		hold(t, x.of(slices.Repeat([]api.Term{con(2, z)}, 100)...), x.name+repeat("(s z)", 100))
	}
	hold(t, lam(vari(0, z)), "[_0]_0 z")
	hold(t, lam(vari(0, z, vari(0), con(2, z))), "[_0]_0 z _0(s z)")
	hold(t, lam(vari(0, vari(0, vari(0, vari(0))))), "[_0]_0(_0(_0 _0))")
}

// each is a term that stands below one node that binds, and its tokens there: one of each sort, without Args and with them.
type each struct {
	x    api.Term
	text string
	name bool
}

func eachSort() []each {
	return []each{
		{sort, "type", false},
		{pi(fam(0), sort), "{_1:nat}type", false},
		{pi(vari(0), vari(1, vari(0))), "{_1:_0}_0 _1", false},
		{lam(vari(0)), "[_1]_1", false},
		{lam(sort), "[_1]type", false},
		{vari(0), "_0", true},
		{vari(0, con(1)), "_0 z", false},
		{vari(0, sort), "_0(type)", false},
		{fam(0), "nat", true},
		{fam(3, con(1), vari(0)), "le z _0", false},
		{con(1), "z", true},
		{con(4), "r", true},
		{con(2, con(1)), "s z", false},
		{con(2, lam(vari(1))), "s([_1]_0)", false},
	}
}

// asArg is what a term is as an Arg: behind a name, and behind ( or ).
func (a each) asArg(behindName bool) string {
	switch {
	case !a.name:
		return "(" + a.text + ")"
	case behindName:
		return " " + a.text
	}
	return a.text
}

func TestEachSortAsAnArgOfEach(t *testing.T) {
	for _, head := range []struct {
		x    api.Term
		name string
	}{{vari(0), "_0"}, {fam(0), "nat"}, {fam(3), "le"}, {con(1), "z"}, {con(2), "s"}} {
		with := func(want string, args ...api.Term) {
			t.Helper()
			hold(t, lam(node(head.x.Kind, head.x.Head, args...)), "[_0]"+head.name+want)
		}
		for _, a := range eachSort() {
			with(a.asArg(true), a.x)
			for _, b := range eachSort() {
				with(a.asArg(true)+b.asArg(a.name), a.x, b.x)
				with(a.asArg(true)+b.asArg(a.name)+a.asArg(b.name), a.x, b.x, a.x)
			}
		}
	}
}

func TestEachSortInWhatBinds(t *testing.T) {
	for _, a := range eachSort() {
		hold(t, lam(a.x), "[_0]"+a.text)
		hold(t, pi(sort, a.x), "{_0:type}"+a.text)
		hold(t, lam(pi(a.x, fam(0))), "[_0]{_1:"+a.text+"}nat")
		hold(t, lam(pi(a.x, vari(0))), "[_0]{_1:"+a.text+"}_1")
		hold(t, lam(pi(a.x, vari(1))), "[_0]{_1:"+a.text+"}_0")
	}
}

func TestPisAndLamsInEachOther(t *testing.T) {
	nat, id := fam(0), lam(vari(0))
	hold(t, pi(nat, nat), "{_0:nat}nat")
	hold(t, pi(pi(nat, nat), nat), "{_0:{_0:nat}nat}nat")
	hold(t, pi(nat, pi(nat, nat)), "{_0:nat}{_1:nat}nat")
	hold(t, pi(pi(nat, vari(0)), pi(vari(0), vari(1))), "{_0:{_0:nat}_0}{_1:_0}_0")
	hold(t, pi(pi(pi(nat, nat), nat), nat), "{_0:{_0:{_0:nat}nat}nat}nat")
	hold(t, pi(nat, pi(pi(vari(0), vari(0)), vari(0))), "{_0:nat}{_1:{_1:_0}_1}_1")
	hold(t, lam(lam(vari(1, vari(0)))), "[_0][_1]_0 _1")
	hold(t, lam(pi(vari(0), vari(1))), "[_0]{_1:_0}_0")
	hold(t, lam(pi(lam(vari(1, vari(0))), lam(vari(2, vari(1), vari(0))))), "[_0]{_1:[_1]_0 _1}[_2]_0 _1 _2")
	hold(t, pi(id, id), "{_0:[_0]_0}[_1]_1")
	hold(t, pi(id, lam(vari(1))), "{_0:[_0]_0}[_1]_0")
	hold(t, con(2, id, pi(nat, vari(0)), id), "s([_0]_0)({_0:nat}_0)([_0]_0)")
}

// What the variables are called: from the nearest one to the farthest one.
func TestNamesOfVars(t *testing.T) {
	for n := 1; n < 60; n++ {
		var names string
		for i := range n {
			names += "[_" + number(i) + "]"
		}
		for head := range n {
			hold(t, lams(n, vari(head)), names+"_"+number(n-1-head))
		}
		refuse(t, lams(n, vari(n)), api.ErrScope)
		refuse(t, lams(n, vari(n+1)), api.ErrScope)
		refuse(t, lams(n, vari(1<<62)), api.ErrScope)
	}
	hold(t, lams(12, con(2, vari(0), vari(1), vari(2), vari(10), vari(11))),
		"[_0][_1][_2][_3][_4][_5][_6][_7][_8][_9][_10][_11]s _11 _10 _9 _1 _0")
}

func TestNamesOfVarsInPis(t *testing.T) {
	nat := fam(0)
	x, names := nat, ""
	for n := 1; n < 59; n++ {
		names += "{_" + number(n-1) + ":nat}"
		for head := range n {
			hold(t, pis(n, vari(head)), names+"_"+number(n-1-head))
			// In a first Arg there is none more than around it.
			hold(t, pis(n, pi(vari(head), vari(head+1))), names+"{_"+number(n)+":_"+number(n-1-head)+"}_"+number(n-1-head))
		}
		refuse(t, pis(n, vari(n)), api.ErrScope)
		refuse(t, pis(n, pi(vari(n), nat)), api.ErrScope)
		hold(t, pis(n, pi(nat, vari(n))), names+"{_"+number(n)+":nat}_0")
		x = pi(x, nat)
	}
	// Pis in first Args bind nothing there.
	hold(t, x, repeat("{_0:", 58)+"nat"+repeat("}nat", 58))
	refuse(t, pi(vari(0), nat), api.ErrScope)
	hold(t, pi(nat, vari(0)), "{_0:nat}_0")
	hold(t, lam(pi(vari(0), vari(0))), "[_0]{_1:_0}_1")
}

// pis is a term below so many Pis of nat.
func pis(n int, t api.Term) api.Term {
	for range n {
		t = pi(fam(0), t)
	}
	return t
}

// Names are bound anew beside one another, and there is one more below one more alone.
func TestNamesBesideOneAnother(t *testing.T) {
	id := lam(vari(0))
	hold(t, lam(con(2, id, id, vari(0), lam(id), vari(0))), "[_0]s([_1]_1)([_1]_1)_0([_1][_2]_2)_0")
	hold(t, con(2, lams(11, vari(0)), lams(10, vari(0))),
		"s([_0][_1][_2][_3][_4][_5][_6][_7][_8][_9][_10]_10)([_0][_1][_2][_3][_4][_5][_6][_7][_8][_9]_9)")
}

// In what lex's Text has no space stands but between two names.
func TestWhereSpacesStand(t *testing.T) {
	z, sz := con(1), con(2, con(1))
	hold(t, con(2, z, z, z), "s z z z")
	hold(t, con(2, sz, z, sz), "s(s z)z(s z)")
	hold(t, con(2, z, sz, sz, z, z), "s z(s z)(s z)z z")
	hold(t, con(2, con(2, con(2, z))), "s(s(s z))")
	hold(t, con(2, sort, sort), "s(type)(type)")
	hold(t, pi(fam(3, z, z), fam(3, z, vari(0))), "{_0:le z z}le z _0")
	hold(t, lam(fam(3, vari(0), sz)), "[_0]le _0(s z)")
}

// What Term is handed may have any names, any number of times: they are written as they are.
func TestDeclarationsOfAnyNames(t *testing.T) {
	long := repeat("long", 1000)
	l := sig(decl("", sort), decl("_0", sort), decl("type", fam(0)), decl("a b", fam(0)), decl("(", fam(0)), decl("\u00e9\xff", met(5)), decl(long, vari(7)), decl("z", sort), decl("z", con(99)), decl("\x00%\n", node(-1, -1)))
	for i, d := range l {
		over(t, fam(i), l, d.Name)
		over(t, con(i), l, d.Name)
		over(t, con(i, con(i)), l, d.Name+" "+d.Name)
		over(t, lam(con(i, vari(0), fam(i))), l, "[_0]"+d.Name+" _0 "+d.Name)
		over(t, con(i, lam(vari(0)), con(i, sort), con(i)), l, d.Name+"([_0]_0)("+d.Name+"(type))"+d.Name)
	}
	refuseOver(t, con(10), l, api.ErrScope)
}

// P15.1, of declarations.

func TestNoDeclarations(t *testing.T) {
	holdDecls(t, nil, "")
	holdDecls(t, []api.Decl{}, "")
	holdDecls(t, system()[:0], "")
}

func TestDeclarations(t *testing.T) {
	holdDecls(t, sig(decl("nat", sort)), "nat : type.\n")
	holdDecls(t, sig(decl("a'", sort), decl("B_9", pi(fam(0), fam(0, vari(0))))), "a' : type.\nB_9 : {_0:a'}a' _0.\n")
	holdDecls(t, system(), systemText)
	for n := range system() {
		lines := strings.SplitAfter(systemText, "\n")
		holdDecls(t, system()[:n], strings.Join(lines[:n], ""))
	}
	holdDecls(t, sig(decl("a", lam(vari(0))), decl("b", con(0, sort))), "a : [_0]_0.\nb : a(type).\n")
}

// A term is over all of the declarations: those ahead of its own one, that one, and those behind it.
func TestDeclarationsThatNameAnyOther(t *testing.T) {
	for i := range 5 {
		for j := range 5 {
			for _, x := range []api.Term{fam(j), con(j)} {
				l := sig(decl("a", sort), decl("b", sort), decl("c", sort), decl("d", sort), decl("e", sort))
				l[i].T = x
				want := strings.Split("a : type.\nb : type.\nc : type.\nd : type.\ne : type.\n", "\n")
				want[i] = l[i].Name + " : " + l[j].Name + "."
				holdDecls(t, l, strings.Join(want, "\n"))
			}
		}
	}
	holdDecls(t, sig(decl("a", con(0))), "a : a.\n")
	holdDecls(t, sig(decl("a", con(1, con(2))), decl("b", con(0)), decl("c", sort)), "a : b c.\nb : a.\nc : type.\n")
}

// There may be any number of them.
func TestManyDeclarations(t *testing.T) {
	var l []api.Decl
	var want strings.Builder
	for i := range 300 {
		l = append(l, decl("a"+number(i), fam(299-i)))
		want.WriteString("a" + number(i) + " : a" + number(299-i) + ".\n")
	}
	holdDecls(t, l, want.String())
	over(t, con(299), l, "a299")
	for n := 39; n < 43; n++ {
		m, text := sig(decl("x", fam(0))), "x : x.\n"
		for i := 1; i < n; i++ {
			m, text = append(m, decl("x"+number(i), fam(i-1))), text+"x"+number(i)+" : "+m[i-1].Name+".\n"
		}
		holdDecls(t, m, text)
	}
}

func TestNamesThatMayBeDeclared(t *testing.T) {
	for _, name := range []string{"a", "0", "'", "a_", "a'", "Type", "typ", "types", "0_", repeat("a", 40), "z0Z9'_"} {
		if !parse.Name(name) {
			t.Fatal(name)
		}
		holdDecls(t, sig(decl(name, sort)), name+" : type.\n")
		holdDecls(t, append(system(), decl(name, con(5, con(5), sort))), systemText+name+" : "+name+" "+name+"(type).\n")
	}
}
