package sign_test

import (
	"math"
	"slices"
	"testing"

	"amanuensis/api"
	"amanuensis/sign"
)

var sort = api.Term{Kind: api.Sort}

func node(kind, head int, args ...api.Term) api.Term {
	return api.Term{Kind: kind, Head: head, Args: args}
}

func pi(a, b api.Term) api.Term                { return node(api.Pi, 0, a, b) }
func lam(a api.Term) api.Term                  { return node(api.Lam, 0, a) }
func fam(head int, args ...api.Term) api.Term  { return node(api.Fam, head, args...) }
func vari(head int, args ...api.Term) api.Term { return node(api.Var, head, args...) }
func con(head int, args ...api.Term) api.Term  { return node(api.Const, head, args...) }
func hole(head int, args ...api.Term) api.Term { return node(api.Meta, head, args...) }

func list(l ...api.Term) []api.Term { return l }
func ints(l ...int) []int           { return l }

// pis is a Pi of each of l, one in the other, which come to t.
func pis(l []api.Term, t api.Term) api.Term {
	for _, a := range slices.Backward(l) {
		t = pi(a, t)
	}
	return t
}

// types are declarations of these types, or kinds.
func types(l ...api.Term) []api.Decl {
	var sig []api.Decl
	for _, t := range l {
		sig = append(sig, api.Decl{Name: "x", T: t})
	}
	return sig
}

func equal(a, b api.Term) bool {
	return a.Kind == b.Kind && a.Head == b.Head && slices.EqualFunc(a.Args, b.Args, equal)
}

func hold(t *testing.T, name string, x api.Term, asked []api.Term, end api.Term) {
	t.Helper()
	l, r := sign.Split(x)
	if !slices.EqualFunc(l, asked, equal) || !equal(r, end) {
		t.Errorf("%s: %v is split into %v and %v, not %v and %v", name, x, l, r, asked, end)
	}
}

func holdConstants(t *testing.T, name string, sig []api.Decl, family int, want []int) {
	t.Helper()
	if l := sign.Constants(sig, family); !slices.Equal(l, want) {
		t.Errorf("%s: the constants of %d are %v, not %v", name, family, l, want)
	}
}

// P9.1

func TestSplit(t *testing.T) {
	a, b, c := con(1, vari(0)), lam(vari(1)), fam(7, hole(2))
	for _, x := range []struct {
		name  string
		t     api.Term
		asked []api.Term
		end   api.Term
	}{
		{"the chapter's example", pi(a, pi(b, fam(3))), list(a, b), fam(3)},
		{"one Pi", pi(a, fam(3)), list(a), fam(3)},
		{"three Pis", pi(a, pi(b, pi(c, fam(3, a)))), list(a, b, c), fam(3, a)},
		{"the same thing each time", pi(c, pi(c, pi(c, c))), list(c, c, c), c},
		{"a kind", pi(a, pi(b, sort)), list(a, b), sort},
		{"a kind of one Pi", pi(fam(0), sort), list(fam(0)), sort},
		{"Pis to another one", pi(a, pi(b, vari(4, a))), list(a, b), vari(4, a)},
		{"a Pi on the left", pi(pi(a, b), c), list(pi(a, b)), c},
		{"Pis on the left", pi(pi(pi(a, b), c), pi(pi(b, a), sort)), list(pi(pi(a, b), c), pi(b, a)), sort},
		{"a Pi that asks for the Sort", pi(sort, fam(0)), list(sort), fam(0)},
		{"variables are as they were", pi(fam(0), pi(fam(1, vari(0)), fam(2, vari(0), vari(1), vari(5)))), list(fam(0), fam(1, vari(0))), fam(2, vari(0), vari(1), vari(5))},
		{"a Pi within the last one's Args", pi(a, fam(3, pi(b, sort))), list(a), fam(3, pi(b, sort))},
		{"a Pi within a Lam", pi(a, lam(pi(b, sort))), list(a), lam(pi(b, sort))},
	} {
		hold(t, x.name, x.t, x.asked, x.end)
	}
	var many []api.Term
	for i := range 58 {
		many = append(many, fam(i, vari(58-i)))
		hold(t, "many Pis", pis(many, fam(99)), many, fam(99))
		hold(t, "many Pis of a kind", pis(many, sort), many, sort)
	}
}

// others are terms that come to neither a Sort nor a Fam.
func others() map[string]api.Term {
	return map[string]api.Term{
		"Lam":           lam(vari(0)),
		"Lam of Sort":   lam(sort),
		"Lam of Fam":    lam(fam(0)),
		"Lam of a Pi":   lam(pi(fam(0), fam(1))),
		"Lam of two":    node(api.Lam, 0, fam(1), fam(2)),
		"Lam of Sorts":  node(api.Lam, 0, sort, sort),
		"Var":           vari(2),
		"Var of Fam":    vari(2, fam(0)),
		"Const":         con(3),
		"Const of Sort": con(3, sort),
		"Const of two":  con(3, fam(0), fam(1)),
		"Meta":          hole(4),
		"Meta of two":   hole(4, sort, sort),
		"Pi of none":    node(api.Pi, 0),
		"Pi of one":     node(api.Pi, 0, fam(1)),
		"Pi of a Sort":  node(api.Pi, 0, sort),
		"Pi of three":   node(api.Pi, 0, fam(1), sort, fam(2)),
		"Pi of Sorts":   node(api.Pi, 0, sort, sort, sort),
		"Pi of four":    node(api.Pi, 0, fam(1), fam(2), fam(3), fam(4)),
		"kind below 0":  node(-1, 3, sort, fam(1)),
		"least kind":    node(math.MinInt, 3, sort, fam(1)),
		"kind Kinds":    node(api.Kinds, 3, sort, fam(1)),
		"greatest kind": node(math.MaxInt, 3, sort, fam(1)),
	}
}

// sorts and families are terms that come to one at once, the families by what they are a Fam of.
func sorts() map[string]api.Term {
	return map[string]api.Term{
		"Sort":               sort,
		"Sort with a head":   node(api.Sort, 5),
		"Sort below 0":       node(api.Sort, -5),
		"Sort of one":        node(api.Sort, 0, fam(1)),
		"Sort of two":        node(api.Sort, 0, fam(1), fam(2)),
		"Sort of Sort":       node(api.Sort, 3, sort),
		"Sort of a Pi":       node(api.Sort, 0, pi(fam(0), fam(1))),
		"the zero value":     {},
		"Sort of no Args":    {Args: []api.Term{}},
		"Sort of what isn't": node(api.Sort, 0, node(-1, -1), node(api.Pi, 0)),
	}
}

func families() map[int][]api.Term {
	return map[int][]api.Term{
		0:           {fam(0), fam(0, sort), fam(0, fam(1), fam(2))},
		1:           {fam(1), fam(1, con(0)), fam(1, pi(fam(0), sort))},
		2:           {fam(2), fam(2, fam(0)), fam(2, node(-1, -1), node(api.Pi, 0))},
		39:          {fam(39)},
		1000:        {fam(1000, vari(0))},
		math.MaxInt: {fam(math.MaxInt)},
		-1:          {fam(-1), fam(-1, fam(0))},
		-2:          {fam(-2), fam(-2, fam(2))},
		math.MinInt: {fam(math.MinInt)},
	}
}

func TestSplitOfWhatIsNoPiOfTwo(t *testing.T) {
	for _, l := range []map[string]api.Term{others(), sorts()} {
		for name, x := range l {
			hold(t, name, x, nil, x)
			hold(t, name+", behind one", pi(con(0), x), list(con(0)), x)
			hold(t, name+", behind two", pi(con(0), pi(x, x)), list(con(0), x), x)
			hold(t, name+", behind many", pis(slices.Repeat(list(x), 50), x), slices.Repeat(list(x), 50), x)
		}
	}
	for _, l := range families() {
		for _, x := range l {
			hold(t, "Fam", x, nil, x)
			hold(t, "Fam, behind two", pi(con(0), pi(x, x)), list(con(0), x), x)
		}
	}
}

// behind are terms that come to what x does, with other things on the way.
func behind(x api.Term) []api.Term {
	return []api.Term{
		x,
		pi(sort, x),
		pi(fam(0), x),
		pi(x, x),
		pi(fam(8), pi(sort, x)),
		pi(pi(fam(1), sort), pi(pi(sort, fam(2)), x)),
		pi(node(api.Pi, 0), x),
		pi(node(-1, -1), pi(lam(fam(4)), x)),
		pis(slices.Repeat(list(sort, fam(6), con(2)), 15), x),
	}
}

func TestKind(t *testing.T) {
	for name, s := range sorts() {
		for _, x := range behind(s) {
			if !sign.Kind(x) {
				t.Errorf("%s: %v is no kind", name, x)
			}
		}
	}
	for name, o := range others() {
		for _, x := range behind(o) {
			if sign.Kind(x) {
				t.Errorf("%s: %v is a kind", name, x)
			}
		}
	}
	for head, l := range families() {
		for _, f := range l {
			for _, x := range behind(f) {
				if sign.Kind(x) {
					t.Errorf("of %d: %v is a kind", head, x)
				}
			}
		}
	}
}

func TestFamily(t *testing.T) {
	for head, l := range families() {
		for _, f := range l {
			for _, x := range behind(f) {
				if got := sign.Family(x); got != head {
					t.Errorf("%v has the family %d, not %d", x, got, head)
				}
			}
		}
	}
	for _, l := range []map[string]api.Term{others(), sorts()} {
		for name, o := range l {
			for _, x := range behind(o) {
				if got := sign.Family(x); got != -1 {
					t.Errorf("%s: %v has the family %d", name, x, got)
				}
			}
		}
	}
}

// P9.2

// system is a signature: nat 0, z 1, s 2, tm 3, lam 4, plus 5, pz 6, ps 7, one more tm 8, one more nat 9.
func system() []api.Decl {
	nat, tm := fam(0), fam(3)
	s := func(t api.Term) api.Term { return con(2, t) }
	return []api.Decl{
		{Name: "nat", T: sort},
		{Name: "z", T: nat},
		{Name: "s", T: pi(nat, nat)},
		{Name: "tm", T: sort},
		{Name: "lam", T: pi(pi(tm, tm), tm)},
		{Name: "plus", T: pis(list(nat, nat, nat), sort)},
		{Name: "pz", T: pi(nat, fam(5, con(1), vari(0), vari(0)))},
		{Name: "ps", T: pis(list(nat, nat, nat, fam(5, vari(2), vari(1), vari(0))), fam(5, s(vari(3)), vari(2), s(vari(1))))},
		{Name: "u", T: pi(nat, pi(tm, tm))},
		{Name: "n", T: pi(tm, nat)},
	}
}

func TestConstants(t *testing.T) {
	sig := system()
	for family, want := range map[int][]int{
		0: {1, 2, 9},
		3: {4, 8},
		5: {6, 7},
		// Of a constant, of none that is declared, and of none at all.
		1: nil, 2: nil, 4: nil, 8: nil, 9: nil, 10: nil, 11: nil, 100: nil, math.MaxInt: nil,
		-1: nil, -2: nil, -10: nil, math.MinInt: nil,
	} {
		holdConstants(t, "numbers and terms", sig, family, want)
	}
	for n := range sig {
		holdConstants(t, "those ahead", sig[:n], 0, slices.DeleteFunc(ints(1, 2, 9), func(i int) bool { return i >= n }))
		holdConstants(t, "those ahead", sig[:n], 3, slices.DeleteFunc(ints(4, 8), func(i int) bool { return i >= n }))
	}
	holdConstants(t, "one alone, number 0", types(fam(7)), 7, ints(0))
	holdConstants(t, "one alone, of 0", types(fam(0)), 0, ints(0))
	holdConstants(t, "all of one", types(fam(2), pi(sort, fam(2)), fam(2, con(0))), 2, ints(0, 1, 2))
	holdConstants(t, "the first and the last one", types(fam(1), fam(2), sort, fam(1)), 1, ints(0, 3))
	holdConstants(t, "a family that is declared behind it", types(fam(1), sort, fam(1)), 1, ints(0, 2))
	holdConstants(t, "a family that is declared by itself", types(fam(0), fam(0)), 0, ints(0, 1))
	holdConstants(t, "the greatest family", types(fam(1), fam(math.MaxInt)), math.MaxInt, ints(1))
}

func TestConstantsOfMany(t *testing.T) {
	var sig []api.Decl
	want := make([][]int, 7)
	for i := range 1000 {
		x := fam(i * i % 7)
		switch i % 3 {
		case 0:
			x = pi(sort, x)
		case 1:
			x = pi(x, sort)
		}
		if i%3 != 1 {
			want[i*i%7] = append(want[i*i%7], i)
		}
		sig = append(sig, api.Decl{T: x})
	}
	for family := range want {
		holdConstants(t, "of a thousand", sig, family, want[family])
	}
}

func TestConstantsOfNoDeclarations(t *testing.T) {
	for _, family := range []int{0, 1, -1, math.MaxInt, math.MinInt} {
		if l := sign.Constants(nil, family); len(l) != 0 {
			t.Errorf("%d: %v", family, l)
		}
		if l := sign.Constants([]api.Decl{}, family); len(l) != 0 {
			t.Errorf("%d: %v", family, l)
		}
	}
}

// A family that nothing comes to, also where things only have it on the way, or within.
func TestConstantsThatOnlyHaveTheFamilyWithin(t *testing.T) {
	f := fam(6)
	for name, x := range map[string]api.Term{
		"what it asks for":      pi(f, fam(1)),
		"a kind that asks":      pi(f, sort),
		"what that asks for":    pi(pi(f, fam(1)), fam(1)),
		"what that comes to":    pi(pi(fam(1), f), fam(1)),
		"an Arg":                fam(1, f),
		"in a Lam":              lam(f),
		"of another Kind":       con(6, f),
		"a Var":                 vari(6),
		"a Meta":                hole(6),
		"a Lam with that head":  node(api.Lam, 6, f),
		"a Sort with that head": node(api.Sort, 6),
		"a Pi with that head":   node(api.Pi, 6, f),
		"Kinds, with that head": node(api.Kinds, 6),
		"of a Pi of one":        node(api.Pi, 0, f),
		"of a Pi of three":      node(api.Pi, 0, f, f, f),
		"behind a Pi of one":    pi(f, node(api.Pi, 0, f)),
		"behind a Pi of three":  pi(f, node(api.Pi, 0, f, f, f)),
	} {
		holdConstants(t, name, types(x), 6, nil)
		holdConstants(t, name+", among others", types(f, x, sort, x, pi(f, f)), 6, ints(0, 4))
	}
}

// Below 0 there is no family, even where Family tells just that number.
func TestConstantsOfAFamilyBelowNought(t *testing.T) {
	sig := types(fam(-1), sort, pi(sort, fam(-1)), con(0), lam(sort), fam(-2), fam(0), fam(math.MinInt), node(api.Pi, 0))
	for _, family := range []int{-1, -2, -3, math.MinInt, math.MinInt + 1} {
		holdConstants(t, "below 0", sig, family, nil)
	}
	holdConstants(t, "0 beside them", sig, 0, ints(6))
	for _, l := range []map[string]api.Term{others(), sorts()} {
		for _, x := range l {
			for _, y := range behind(x) {
				holdConstants(t, "what comes to none", types(y, y), -1, nil)
			}
		}
	}
}
