package show_test

import (
	"slices"
	"strings"
	"testing"

	"amanuensis/api"
	"amanuensis/parse"
	"amanuensis/show"
	"amanuensis/world"
)

// The chapter's words, written out once more: the nodes of a term lie in one list, each with the names that are bound where it stands; and its tokens are put together from the last ones on.

// place is a node, how many are on the way down to it, with itself, and what is bound there.
type place struct {
	x     api.Term
	depth int
	bound []string
}

// places are those of a term's nodes; false: these are too many, or too deep.
func places(x api.Term) ([]place, bool) {
	l := []place{{x, 1, nil}}
	for i := 0; i < len(l); i++ {
		at := l[i]
		if len(l) > 4000 || at.depth > 60 {
			return nil, false
		}
		for j, a := range at.x.Args {
			bound := at.bound
			if (at.x.Kind == api.Pi || at.x.Kind == api.Lam) && j == len(at.x.Args)-1 {
				bound = append(slices.Clone(bound), "_"+number(len(bound)))
			}
			l = append(l, place{a, at.depth + 1, bound})
		}
	}
	return l, true
}

// wrongPlainly is what is wrong with a term over so many declarations.
func wrongPlainly(x api.Term, decls int) api.Errno {
	l, is := places(x)
	if !is {
		return api.ErrArg
	}
	e := api.OK
	for _, at := range l {
		switch args, head := len(at.x.Args), at.x.Head; at.x.Kind {
		case api.Sort, api.Pi, api.Lam:
			if head != 0 || args != map[int]int{api.Sort: 0, api.Pi: 2, api.Lam: 1}[at.x.Kind] {
				return api.ErrArg
			}
		case api.Fam, api.Var, api.Const, api.Meta:
			if head < 0 {
				return api.ErrArg
			}
			if head >= map[int]int{api.Fam: decls, api.Const: decls, api.Var: len(at.bound), api.Meta: 0}[at.x.Kind] {
				e = api.ErrScope
			}
		default:
			return api.ErrArg
		}
	}
	return e
}

// piece is a token: a name, or else a mark.
type piece struct {
	text string
	name bool
}

// pieces puts the tokens of a term ahead of those behind it.
func pieces(x api.Term, l []api.Decl, bound []string, behind []piece) []piece {
	ahead := func(text string, name bool) { behind = slices.Insert(behind, 0, piece{text, name}) }
	next := "_" + number(len(bound))
	if x.Kind == api.Pi || x.Kind == api.Lam {
		behind = pieces(x.Args[len(x.Args)-1], l, append(slices.Clone(bound), next), behind)
	}
	switch x.Kind {
	case api.Sort:
		ahead("type", true)
		return behind
	case api.Pi:
		ahead("}", false)
		behind = pieces(x.Args[0], l, bound, behind)
		ahead(":", false)
		ahead(next, true)
		ahead("{", false)
		return behind
	case api.Lam:
		ahead("]", false)
		ahead(next, true)
		ahead("[", false)
		return behind
	}
	for _, a := range slices.Backward(x.Args) {
		if len(a.Args) == 0 && slices.Contains([]int{api.Var, api.Fam, api.Const}, a.Kind) {
			behind = pieces(a, l, bound, behind)
			continue
		}
		ahead(")", false)
		behind = pieces(a, l, bound, behind)
		ahead("(", false)
	}
	if x.Kind == api.Var {
		ahead(bound[len(bound)-1-x.Head], true)
	} else {
		ahead(l[x.Head].Name, true)
	}
	return behind
}

func termPlainly(x api.Term, l []api.Decl) (string, api.Errno) {
	if e := wrongPlainly(x, len(l)); e != api.OK {
		return "", e
	}
	var s string
	all := pieces(x, l, nil, nil)
	for i, p := range all {
		if i > 0 && p.name && all[i-1].name {
			s += " "
		}
		s += p.text
	}
	return s, api.OK
}

func declsPlainly(l []api.Decl) (string, api.Errno) {
	var s string
	for i, d := range l {
		for j, other := range l {
			if i != j && d.Name == other.Name {
				return "", api.ErrArg
			}
		}
		if len(d.Name) < 1 || len(d.Name) > 40 || strings.Trim(d.Name, letters) != "" || d.Name[0] == '_' || d.Name == "type" {
			return "", api.ErrArg
		}
		text, e := termPlainly(d.T, l)
		if e != api.OK {
			return "", e
		}
		s += d.Name + " : " + text + ".\n"
	}
	return s, api.OK
}

// All bytes that may stand in a name, as chapter 13 has them.
const letters = "abcdefghijklmnopqrstuvwxyzABCDEFGHIJKLMNOPQRSTUVWXYZ0123456789_'"

// agree and agreeDecls hold what is written against the plain words.
func agree(t *testing.T, x api.Term, l []api.Decl) api.Errno {
	t.Helper()
	want, wrong := termPlainly(x, l)
	if b, e := show.Term(x, l); e != wrong || string(b) != want {
		t.Fatalf("the text of %v over %d is %q, %d, not %q, %d", short(spell(x)), len(l), short(b), e, short(want), wrong)
	}
	return wrong
}

func agreeDecls(t *testing.T, l []api.Decl) api.Errno {
	t.Helper()
	want, wrong := declsPlainly(l)
	if b, e := show.Decls(l); e != wrong || string(b) != want {
		t.Fatalf("the text of %d declarations is %q, %d, not %q, %d", len(l), short(b), e, short(want), wrong)
	}
	return wrong
}

// terms goes through all terms of so many nodes of these kinds, and of these Heads.
func terms(nodes int, kinds, heads []int, f func(x api.Term)) {
	if nodes == 0 {
		return
	}
	lists(nodes-1, kinds, heads, nil, func(args []api.Term) {
		for _, kind := range kinds {
			for _, head := range heads {
				f(node(kind, head, args...))
			}
		}
	})
}

// lists goes through all lists of terms, behind these, that have so many nodes together.
func lists(nodes int, kinds, heads []int, ahead []api.Term, f func(l []api.Term)) {
	if nodes == 0 {
		f(ahead)
		return
	}
	for n := range nodes {
		terms(n+1, kinds, heads, func(x api.Term) {
			lists(nodes-n-1, kinds, heads, append(slices.Clone(ahead), x), f)
		})
	}
}

func TestAllSmallTermsAgainstThePlainWords(t *testing.T) {
	told := map[api.Errno]int{}
	two := sig(decl("a", sort), decl("b", fam(0)))
	count := func(most int, kinds, heads []int) {
		for n := range most + 1 {
			terms(n, kinds, heads, func(x api.Term) { told[agree(t, x, two)]++ })
		}
	}
	count(3, []int{-1, 0, 1, 2, 3, 4, 5, 6, 7}, []int{-1, 0, 1, 2})
	count(4, []int{api.Sort, api.Pi, api.Fam, api.Lam, api.Var, api.Const, api.Meta}, []int{0, 2})
	count(5, []int{api.Sort, api.Pi, api.Lam, api.Var, api.Const}, []int{0})
	count(5, []int{api.Lam, api.Var, api.Fam}, []int{0, 1})
	for _, e := range []api.Errno{api.OK, api.ErrArg, api.ErrScope} {
		if told[e] < 3000 {
			t.Errorf("%d is told of %d terms alone: %v", e, told[e], told)
		}
	}
}

// dice is a row of numbers that looks like chance, and is the same each time.
type dice uint64

func (d *dice) below(n int) int {
	*d = *d*6364136223846793005 + 1442695040888963407
	return int(uint64(*d) >> 33 % uint64(n))
}

// term is any term over so many declarations that is scoped, below so many nodes that bind.
func (d *dice) term(decls, binders, deep int) api.Term {
	kind := d.below(8)
	if deep == 0 {
		kind = 2 + d.below(3)
	}
	args := func() []api.Term {
		var l []api.Term
		for range min(deep, d.below(4)) {
			l = append(l, d.term(decls, binders, deep-1))
		}
		return l
	}
	switch {
	case kind < 1:
		return pi(d.term(decls, binders, deep-1), d.term(decls, binders+1, deep-1))
	case kind < 2 || kind > 5:
		return lam(d.term(decls, binders+1, deep-1))
	case kind < 4 && binders > 0:
		return vari(d.below(binders), args()...)
	case decls == 0 || kind == 4 && d.below(4) == 0:
		return sort
	}
	return node([]int{api.Fam, api.Const}[d.below(2)], d.below(decls), args()...)
}

// anything is a term of which each node is, at times, what it may not be.
func (d *dice) anything(deep int) api.Term {
	x := d.term(4, 0, deep)
	d.spoil(&x)
	return x
}

func (d *dice) spoil(x *api.Term) {
	switch d.below(40) {
	case 0:
		x.Kind = d.below(9) - 1
	case 1:
		x.Head += d.below(4) - 1
	case 2:
		x.Args = append(x.Args, sort)
	case 3:
		x.Args = x.Args[:len(x.Args)/2]
	case 4:
		*x = met(d.below(2), x.Args...)
	}
	for i := range x.Args {
		d.spoil(&x.Args[i])
	}
}

func (d *dice) anyName() string {
	if d.below(12) == 0 {
		return []string{"", "_", "type", "a b", "(", "_0", "\xff", repeat("a", 41)}[d.below(8)]
	}
	return []string{"a", "b'", "nat", "Z0", "x_", "types"}[d.below(6)] + number(d.below(20))
}

func TestManyTermsAgainstThePlainWords(t *testing.T) {
	d := dice(7)
	told := map[api.Errno]int{}
	for n := range 40000 {
		l := make([]api.Decl, d.below(7))
		for i := range l {
			l[i] = decl(d.anyName(), d.anything(d.below(3)))
		}
		told[agree(t, d.term(len(l), 0, n%9), l)]++
		told[agree(t, d.anything(n%7), l)]++
	}
	for _, e := range []api.Errno{api.OK, api.ErrArg, api.ErrScope} {
		if told[e] < 2000 {
			t.Errorf("%d is told of %d terms alone: %v", e, told[e], told)
		}
	}
}

func TestManyDeclarationsAgainstThePlainWords(t *testing.T) {
	d := dice(41)
	told := map[api.Errno]int{}
	for n := range 20000 {
		l := make([]api.Decl, d.below(8))
		for i := range l {
			l[i] = decl(d.anyName(), d.term(len(l), 0, n%5))
			if d.below(5) == 0 {
				l[i].T = d.anything(1 + d.below(4))
			}
		}
		told[agreeDecls(t, l)]++
	}
	for _, e := range []api.Errno{api.OK, api.ErrArg, api.ErrScope} {
		if told[e] < 500 {
			t.Errorf("%d is told of %d signatures alone: %v", e, told[e], told)
		}
	}
}

// P15.2

// back holds that what is written of declarations, and of their terms over those ahead, is read as that, and written again as it was.
func back(t *testing.T, l []api.Decl) {
	t.Helper()
	b, e := show.Decls(l)
	if e != api.OK {
		t.Fatalf("%d declarations: %d", len(l), e)
	}
	read, e := parse.Decls(b)
	if e != api.OK || !equalDecls(read, l) {
		t.Fatalf("%q is read as %v, %d", short(b), read, e)
	}
	again, e := show.Decls(read)
	if e != api.OK || string(again) != string(b) {
		t.Fatalf("%q is written again as %q, %d", short(b), short(again), e)
	}
	for i, d := range l {
		backOver(t, d.T, l)
		backOver(t, d.T, l[:i])
	}
}

// backOver is back of a term over declarations.
func backOver(t *testing.T, x api.Term, l []api.Decl) {
	t.Helper()
	b, e := show.Term(x, l)
	if e != api.OK {
		t.Fatalf("%s: %d", short(spell(x)), e)
	}
	read, e := parse.Term(b, l)
	if e != api.OK || !equal(read, x) {
		t.Fatalf("%q is read as %v, %d", short(b), short(spell(read)), e)
	}
}

func TestASystemIsReadAsItWas(t *testing.T) {
	for n := range system() {
		back(t, system()[:n+1])
	}
	nat, tm := fam(0), fam(6)
	s := func(x api.Term) api.Term { return con(2, x) }
	l := sig(decl("nat", sort), decl("z", nat), decl("s", pi(nat, nat)), decl("plus", pi(nat, pi(nat, pi(nat, sort)))),
		decl("pz", pi(nat, fam(3, con(1), vari(0), vari(0)))),
		decl("ps", pi(nat, pi(nat, pi(nat, pi(fam(3, vari(2), vari(1), vari(0)), fam(3, s(vari(3)), vari(2), s(vari(1)))))))),
		decl("tm", sort), decl("lam", pi(pi(tm, tm), tm)), decl("app", pi(tm, pi(tm, tm))),
		decl("conv", pi(tm, pi(tm, sort))),
		decl("beta", pi(pi(tm, tm), pi(tm, fam(9, con(8, con(7, lam(vari(2, vari(0)))), vari(0)), vari(1, vari(0)))))),
		decl("eta", pi(tm, fam(9, con(7, lam(con(8, vari(1), vari(0)))), vari(0)))),
		decl("xi", pi(pi(tm, tm), pi(pi(tm, tm), pi(pi(tm, fam(9, vari(2, vari(0)), vari(1, vari(0)))), fam(9, con(7, lam(vari(3, vari(0)))), con(7, lam(vari(2, vari(0))))))))))
	if at, e := world.Sig(l); e != api.OK {
		t.Fatal(at, e)
	}
	back(t, l)
	backOver(t, con(7, lam(con(8, vari(0), con(7, lam(vari(1)))))), l)
	backOver(t, lam(con(5, vari(0), s(s(con(1))), con(1), con(4, con(1)))), l)
}

// Names that are near to those that nodes bind, or to the Sort's, and the longest ones.
func TestNamesAreReadAsTheyWere(t *testing.T) {
	names := []string{"0", "1", "a_0", "0_", "'", "'_0", "types", "typ", "Type", "z'", "A", "a", repeat("a", 40), repeat("a", 39), repeat("0", 40)}
	var l []api.Decl
	for i, name := range names {
		l = append(l, decl(name, sort), decl("c"+number(i), pi(fam(2*i), pi(fam(2*i), fam(2*i)))))
	}
	back(t, l)
	for i := range names {
		backOver(t, lams(12, con(2*i+1, vari(0), vari(11), lam(vari(0)), sort, fam(2*i))), l)
	}
}

// anyType is a type, or a kind, that may be one over declarations, below so many entries: those that are none are refused by world.
func (d *dice) anyType(l []api.Decl, binders, pis int) api.Term {
	if pis > 0 {
		return pi(d.anyType(l, binders, d.below(2)*(pis-1)), d.anyType(l, binders+1, pis-1))
	}
	var fams []int
	for i, x := range l {
		if asked := x.T; asked.Kind == api.Sort || asked.Kind == api.Pi && asked.Args[1].Kind == api.Sort {
			fams = append(fams, i)
		}
	}
	if len(fams) == 0 || binders >= 0 && d.below(8) == 0 {
		return sort
	}
	f := fams[d.below(len(fams))]
	if l[f].T.Kind == api.Sort {
		return fam(f)
	}
	return fam(f, d.argument(l, binders, 2))
}

// argument is a term of no type in particular.
func (d *dice) argument(l []api.Decl, binders, deep int) api.Term {
	if binders > 0 && d.below(2) == 0 {
		return vari(d.below(binders))
	}
	i := d.below(len(l))
	for l[i].T.Kind == api.Sort {
		i = d.below(len(l))
	}
	if l[i].T.Kind == api.Pi && deep > 0 {
		if d.below(3) == 0 {
			return con(i, lam(d.argument(l, binders+1, deep-1)))
		}
		return con(i, d.argument(l, binders, deep-1))
	}
	return con(i)
}

// Signatures that are in order, of any declarations that world lets be.
func TestManySignaturesAreReadAsTheyWere(t *testing.T) {
	d := dice(152)
	dependent, declarations := 0, 0
	for range 250 {
		l := sig(decl("nat", sort), decl("z", fam(0)), decl("s", pi(fam(0), fam(0))), decl("f", pi(pi(fam(0), fam(0)), fam(0))), decl("vec", pi(fam(0), sort)))
		for range 150 {
			more := append(slices.Clone(l), decl("x"+number(len(l))+"_", d.anyType(l, 0, d.below(5))))
			if _, e := world.Sig(more); e == api.OK {
				l = more
			}
		}
		for _, x := range l {
			b, _ := show.Term(x.T, l)
			if strings.Contains(string(b), "vec _") {
				dependent++
			}
		}
		declarations += len(l)
		back(t, l)
	}
	if dependent < 500 || declarations < 5000 {
		t.Errorf("%d declarations, %d of them of a variable: too few", declarations, dependent)
	}
}

// sorts makes each Head of a term a Fam, where that is a family, and else a Const, as a reader tells them apart.
func sorts(x api.Term, families []int) api.Term {
	if x.Kind == api.Fam || x.Kind == api.Const {
		x.Kind = api.Const
		if slices.Contains(families, x.Head) {
			x.Kind = api.Fam
		}
	}
	x.Args = slices.Clone(x.Args)
	for i := range x.Args {
		x.Args[i] = sorts(x.Args[i], families)
	}
	return x
}

// Terms of any shape, not of those that have a type alone.
func TestManyTermsAreReadAsTheyWere(t *testing.T) {
	d := dice(151)
	sizes := 0
	for n := range 20000 {
		x := sorts(d.term(5, 0, n%12), []int{0, 3})
		b, e := show.Term(x, system())
		if e == api.ErrArg {
			continue
		}
		if len(b) > 20000 {
			if _, e := parse.Term(b, system()); e != api.ErrLimit {
				t.Fatalf("%d bytes are read: %d", len(b), e)
			}
			continue
		}
		sizes += len(b)
		backOver(t, x, system())
	}
	if sizes < 1000000 {
		t.Errorf("%d bytes in all: too few", sizes)
	}
}

// The deepest terms, and greatest ones whose text just is no more than a text may have.
func TestGreatTermsAreReadAsTheyWere(t *testing.T) {
	args := func(n int, a api.Term) []api.Term { return slices.Repeat([]api.Term{a}, n) }
	deep, inPi := con(1), fam(0)
	for range 59 {
		deep, inPi = con(2, deep), pi(inPi, fam(0))
	}
	for _, x := range []api.Term{deep, inPi, pis(59, vari(58)), lams(59, vari(58)), lams(59, sort), con(2, args(3999, con(1))...), con(2, args(1999, con(2, con(1)))...), con(2, args(2500, sort)...)} {
		backOver(t, x, system())
		back(t, append(system(), decl("new", x)))
	}
}

// A signature that is in order is written whatever its length is; what is longer than a text may be is no text to be read.
func TestTextsThatAreTooLongToBeRead(t *testing.T) {
	long := repeat("a", 40)
	many := func(n, pis int) []api.Decl {
		x := fam(0)
		for range pis {
			x = pi(fam(0), x)
		}
		l := sig(decl(long, sort))
		for i := range n {
			l = append(l, decl("x"+number(i), x))
		}
		return l
	}
	for n := range 40 {
		l := many(n, 59)
		if at, e := world.Sig(l); e != api.OK {
			t.Fatal(at, e)
		}
		agreeDecls(t, l)
		b, _ := show.Decls(l)
		if len(b) <= api.MaxText {
			back(t, l)
		} else if read, e := parse.Decls(b); e != api.ErrLimit || len(read) != 0 {
			t.Errorf("%d bytes: %v, %d", len(b), read, e)
		}
	}
}
