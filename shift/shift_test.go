package shift_test

import (
	"math"
	"slices"
	"testing"

	"amanuensis/api"
	"amanuensis/shift"
)

const most = 1 << 20

var sort = api.Term{Kind: api.Sort}

func node(kind, head int, args ...api.Term) api.Term {
	return api.Term{Kind: kind, Head: head, Args: args}
}

func pi(a, b api.Term) api.Term                { return node(api.Pi, 0, a, b) }
func lam(a api.Term) api.Term                  { return node(api.Lam, 0, a) }
func fam(head int, args ...api.Term) api.Term  { return node(api.Fam, head, args...) }
func vari(head int, args ...api.Term) api.Term { return node(api.Var, head, args...) }
func con(head int, args ...api.Term) api.Term  { return node(api.Const, head, args...) }
func meta(head int, args ...api.Term) api.Term { return node(api.Meta, head, args...) }

// lams is a term below so many Lams.
func lams(n int, t api.Term) api.Term {
	for range n {
		t = lam(t)
	}
	return t
}

// wide is a constant of a term so many times.
func wide(n int, t api.Term) api.Term {
	return con(0, slices.Repeat([]api.Term{t}, n)...)
}

func equal(a, b api.Term) bool {
	return a.Kind == b.Kind && a.Head == b.Head && slices.EqualFunc(a.Args, b.Args, equal)
}

func copied(t api.Term) api.Term {
	l := slices.Clone(t.Args)
	for i := range l {
		l[i] = copied(l[i])
	}
	return node(t.Kind, t.Head, l...)
}

func size(t api.Term) int {
	n := 1
	for _, a := range t.Args {
		n += size(a)
	}
	return n
}

// nought tells whether a term is the zero value.
func nought(t api.Term) bool { return t.Kind == 0 && t.Head == 0 && len(t.Args) == 0 }

// terms are many small terms that may be, with variables bound and free.
func terms() []api.Term {
	leaves := []api.Term{sort, fam(1), con(2), meta(0), vari(0), vari(1), vari(2), vari(3), vari(5)}
	l := slices.Clone(leaves)
	for _, a := range leaves {
		l = append(l, lam(a), lam(lam(a)), con(0, a), fam(3, a), meta(1, a), vari(1, a), vari(4, a, lam(a)))
		for _, b := range leaves {
			l = append(l, pi(a, b), lam(pi(a, con(1, b, a))), pi(lam(a), lam(b)), con(1, lam(a), b))
		}
	}
	return l
}

// odd are terms that may not be.
func odd() map[string]api.Term {
	return map[string]api.Term{
		"kind below 0":      node(-1, 0, vari(3)),
		"kind Kinds":        node(api.Kinds, 0, vari(3)),
		"kind below":        con(0, vari(3), node(9, 0)),
		"Sort with a head":  con(0, vari(3), node(api.Sort, 1)),
		"Sort of one":       node(api.Sort, 0, vari(3)),
		"Pi with a head":    node(api.Pi, 1, vari(3), vari(3)),
		"Pi of none":        node(api.Pi, 0),
		"Pi of one":         node(api.Pi, 0, vari(3)),
		"Pi of three":       node(api.Pi, 0, vari(3), vari(3), vari(3)),
		"Lam with a head":   node(api.Lam, 1, vari(3)),
		"Lam of none":       node(api.Lam, 0),
		"Lam of two":        node(api.Lam, 0, vari(3), vari(3)),
		"Var below 0":       vari(-1, vari(3)),
		"Var below 0, deep": con(0, vari(3), lam(vari(-1))),
		"least Var":         vari(math.MinInt),
		"Const below 0":     con(-1, vari(3)),
		"Fam below 0":       fam(-1, vari(3)),
		"Meta below 0":      meta(-1, vari(3)),
		"4001 nodes":        wide(api.MaxSize, vari(3)),
		"61 deep":           lams(api.MaxDepth, vari(99)),
	}
}

// P2.1

// shifts holds terms against what they are, up; nil where down has none.
var shifts = []struct {
	name     string
	t        api.Term
	by, from int
	up       api.Term
	down     *api.Term
}{
	{"the chapter's example", lam(vari(1)), 2, 0, lam(vari(3)), nil},
	{"the chapter's example, from 1", lam(vari(1)), 2, 1, lam(vari(1)), ptr(lam(vari(1)))},
	{"one below from", vari(3), 3, 4, vari(3), ptr(vari(3))},
	{"at from", vari(4), 3, 4, vari(7), nil},
	{"one above from", vari(5), 3, 4, vari(8), nil},
	{"one below from and by", vari(6), 3, 4, vari(9), nil},
	{"at from and by", vari(7), 3, 4, vari(10), ptr(vari(4))},
	{"above from and by", vari(8), 3, 4, vari(11), ptr(vari(5))},
	{"below Lam, bound", lam(vari(0)), 3, 0, lam(vari(0)), ptr(lam(vari(0)))},
	{"below Lam, one below from", lam(vari(4)), 3, 4, lam(vari(4)), ptr(lam(vari(4)))},
	{"below Lam, at from", lam(vari(5)), 3, 4, lam(vari(8)), nil},
	{"below Lam, one below from and by", lam(vari(7)), 3, 4, lam(vari(10)), nil},
	{"below Lam, at from and by", lam(vari(8)), 3, 4, lam(vari(11)), ptr(lam(vari(5)))},
	{"below two Lams, both bound", lam(lam(con(0, vari(0), vari(1)))), 3, 0, lam(lam(con(0, vari(0), vari(1)))), ptr(lam(lam(con(0, vari(0), vari(1)))))},
	{"below two Lams, free", lam(lam(vari(2))), 3, 0, lam(lam(vari(5))), nil},
	{"below two Lams, at by", lam(lam(vari(5))), 3, 0, lam(lam(vari(8))), ptr(lam(lam(vari(2))))},
	{"Pi binds in its last one", pi(sort, vari(0)), 1, 0, pi(sort, vari(0)), ptr(pi(sort, vari(0)))},
	{"Pi binds not in its first one", pi(vari(0), sort), 1, 0, pi(vari(1), sort), nil},
	{"Pi, both", pi(vari(1), vari(2)), 1, 0, pi(vari(2), vari(3)), ptr(pi(vari(0), vari(1)))},
	{"Pi, the last one is in it", pi(vari(1), vari(1)), 1, 0, pi(vari(2), vari(2)), nil},
	{"Pi within Pi, on the left", pi(pi(vari(1), vari(0)), vari(0)), 1, 0, pi(pi(vari(2), vari(0)), vari(0)), ptr(pi(pi(vari(0), vari(0)), vari(0)))},
	{"Pi within Pi, on the right", pi(vari(1), pi(vari(2), vari(3))), 1, 0, pi(vari(2), pi(vari(3), vari(4))), ptr(pi(vari(0), pi(vari(1), vari(2))))},
	{"Lam within Pi", pi(lam(vari(2)), lam(vari(3))), 1, 0, pi(lam(vari(3)), lam(vari(4))), ptr(pi(lam(vari(1)), lam(vari(2))))},
	{"what is behind a Lam is free", con(0, lam(vari(0)), vari(2)), 2, 0, con(0, lam(vari(0)), vari(4)), ptr(con(0, lam(vari(0)), vari(0)))},
	{"Args of a free variable", vari(2, vari(3), lam(vari(0))), 2, 0, vari(4, vari(5), lam(vari(0))), ptr(vari(0, vari(1), lam(vari(0))))},
	{"Args of a variable that stays", lam(vari(0, vari(3))), 2, 0, lam(vari(0, vari(5))), ptr(lam(vari(0, vari(1))))},
	{"Args of a variable below from", vari(0, vari(3)), 2, 1, vari(0, vari(5)), ptr(vari(0, vari(1)))},
	{"Args of Fam, Const and Meta", fam(1, con(1, meta(1, vari(1)))), 1, 0, fam(1, con(1, meta(1, vari(2)))), ptr(fam(1, con(1, meta(1, vari(0)))))},
	{"Fam, Const and Meta are no variables", con(0, fam(1), con(1), meta(1), sort), 2, 0, con(0, fam(1), con(1), meta(1), sort), ptr(con(0, fam(1), con(1), meta(1), sort))},
	{"the last one of many is in it", con(0, vari(9), vari(8), vari(1)), 2, 0, con(0, vari(11), vari(10), vari(3)), nil},
	{"the first one of many is in it", con(0, vari(1), vari(8), vari(9)), 2, 0, con(0, vari(3), vari(10), vari(11)), nil},
	{"an Arg of one that is fine is in it", vari(5, vari(5, vari(1))), 2, 0, vari(7, vari(7, vari(3))), nil},
	{"by 0", con(0, vari(0), lam(vari(1))), 0, 0, con(0, vari(0), lam(vari(1))), ptr(con(0, vari(0), lam(vari(1))))},
	{"by 0 from 1", con(0, vari(0), vari(1), vari(2)), 0, 1, con(0, vari(0), vari(1), vari(2)), ptr(con(0, vari(0), vari(1), vari(2)))},
	{"by 1 from 0", vari(0), 1, 0, vari(1), nil},
	{"Sort", sort, 1, 0, sort, ptr(sort)},
	{"by at its greatest", con(0, vari(most)), most, 0, con(0, vari(2*most)), ptr(con(0, vari(0)))},
	{"by at its greatest, in it", vari(most - 1), most, 0, vari(2*most - 1), nil},
	{"from at its greatest", con(0, vari(most-1), vari(most+1)), 1, most, con(0, vari(most-1), vari(most+2)), ptr(con(0, vari(most-1), vari(most)))},
	{"from at its greatest, in it", vari(most), 1, most, vari(most + 1), nil},
	{"both at their greatest", con(0, vari(most-1), vari(2*most)), most, most, con(0, vari(most-1), vari(3*most)), ptr(con(0, vari(most-1), vari(most)))},
	{"both at their greatest, in it", vari(2*most - 1), most, most, vari(3*most - 1), nil},
	{"4000 nodes", wide(api.MaxSize-1, vari(1)), 1, 0, wide(api.MaxSize-1, vari(2)), ptr(wide(api.MaxSize-1, vari(0)))},
	{"60 deep", lams(api.MaxDepth-1, vari(60)), 1, 0, lams(api.MaxDepth-1, vari(61)), ptr(lams(api.MaxDepth-1, vari(59)))},
	{"60 deep, bound", lams(api.MaxDepth-1, vari(58)), 1, 0, lams(api.MaxDepth-1, vari(58)), ptr(lams(api.MaxDepth-1, vari(58)))},
	{"60 deep, in it", lams(api.MaxDepth-1, vari(59)), 1, 0, lams(api.MaxDepth-1, vari(60)), nil},
	{"greatest heads of what is no variable", con(math.MaxInt, meta(math.MaxInt), fam(math.MaxInt)), 1, 0, con(math.MaxInt, meta(math.MaxInt), fam(math.MaxInt)), ptr(con(math.MaxInt, meta(math.MaxInt), fam(math.MaxInt)))},
	{"a great variable", vari(math.MaxInt - 1), 1, 0, vari(math.MaxInt), ptr(vari(math.MaxInt - 2))},
	{"the sum wraps around", vari(math.MaxInt), 1, 0, vari(math.MinInt), ptr(vari(math.MaxInt - 1))},
	{"the sum wraps around below Lam", lam(vari(math.MaxInt)), 2, 0, lam(vari(math.MinInt + 1)), ptr(lam(vari(math.MaxInt - 2)))},
}

func ptr(t api.Term) *api.Term { return &t }

func TestUp(t *testing.T) {
	for _, x := range shifts {
		if got := shift.Up(x.t, x.by, x.from); !equal(got, x.up) {
			t.Errorf("%s: up by %d from %d is %v", x.name, x.by, x.from, got)
		}
	}
}

func TestDown(t *testing.T) {
	for _, x := range shifts {
		got, is := shift.Down(x.t, x.by, x.from)
		if x.down == nil && (is || !nought(got)) {
			t.Errorf("%s: down by %d from %d is %v, %v, not noughts and false", x.name, x.by, x.from, got, is)
		}
		if x.down != nil && (!is || !equal(got, *x.down)) {
			t.Errorf("%s: down by %d from %d is %v, %v", x.name, x.by, x.from, got, is)
		}
	}
}

// bare is a term whose free variables are gone, and frees are these, as what they are, in order.
func bare(t api.Term, binders int) (api.Term, []int) {
	var frees []int
	if t.Kind == api.Var && t.Head >= binders {
		frees = append(frees, t.Head-binders)
		t.Head = -1
	}
	l := slices.Clone(t.Args)
	for i := range l {
		inner := binders
		if i == len(l)-1 && (t.Kind == api.Pi || t.Kind == api.Lam) {
			inner++
		}
		var more []int
		l[i], more = bare(l[i], inner)
		frees = append(frees, more...)
	}
	return node(t.Kind, t.Head, l...), frees
}

// Nothing but the free variables changes, and these as they should.
func TestFreeVariablesOfManyTerms(t *testing.T) {
	for _, x := range terms() {
		was, frees := bare(x, 0)
		for by := range 5 {
			for from := range 5 {
				want := slices.Clone(frees)
				left := slices.Clone(frees)
				in := false
				for i, f := range frees {
					if f >= from {
						want[i] = f + by
					}
					if f >= from+by {
						left[i] = f - by
					}
					in = in || f >= from && f < from+by
				}
				is, got := bare(shift.Up(x, by, from), 0)
				if !equal(is, was) || !slices.Equal(got, want) {
					t.Fatalf("%v up by %d from %d: %v %v", x, by, from, is, got)
				}
				down, ok := shift.Down(x, by, from)
				if ok == in || !ok && !nought(down) {
					t.Fatalf("%v down by %d from %d: %v %v", x, by, from, down, ok)
				}
				if is, got = bare(down, 0); ok && (!equal(is, was) || !slices.Equal(got, left)) {
					t.Fatalf("%v down by %d from %d: %v %v", x, by, from, is, got)
				}
			}
		}
	}
}

// wrong are numbers beside what by and from may be.
func wrong() []int { return []int{-1, -2, math.MinInt, most + 1, 2 * most, math.MaxInt} }

func TestWrongNumbers(t *testing.T) {
	for _, x := range []api.Term{vari(0), vari(7), sort, lam(vari(3, vari(0))), pi(vari(1), vari(2)), vari(3 * most), vari(math.MaxInt)} {
		for _, n := range wrong() {
			for _, m := range []int{0, 1, most, -1, most + 1, math.MinInt, math.MaxInt} {
				holdWrong(t, x, n, m)
				holdWrong(t, x, m, n)
			}
		}
	}
}

func TestTermsThatMayNotBe(t *testing.T) {
	for _, x := range odd() {
		for _, by := range []int{0, 1, 2, most, -1} {
			for _, from := range []int{0, 1, most, -1} {
				holdWrong(t, x, by, from)
			}
		}
	}
}

// holdWrong holds that up is a copy, and shares nothing, and down noughts and false.
func holdWrong(t *testing.T, x api.Term, by, from int) {
	t.Helper()
	was := copied(x)
	up := shift.Up(x, by, from)
	if !equal(up, was) {
		t.Errorf("%v up by %d from %d is %v, not a copy", x, by, from, up)
	}
	scribble(up)
	if !equal(x, was) {
		t.Errorf("%v up by %d from %d: what is answered is shared", was, by, from)
	}
	if down, is := shift.Down(x, by, from); is || !nought(down) {
		t.Errorf("%v down by %d from %d is %v, %v", x, by, from, down, is)
	}
}

// P2.2

func TestDownOfUpIsWhatItWas(t *testing.T) {
	for _, x := range terms() {
		for _, by := range []int{0, 1, 2, 7, most} {
			for _, from := range []int{0, 1, 2, 3, most} {
				got, is := shift.Down(shift.Up(x, by, from), by, from)
				if !is || !equal(got, x) {
					t.Fatalf("%v by %d from %d: %v, %v", x, by, from, got, is)
				}
			}
		}
	}
}

// What is down, where it can be, is up again what it was.
func TestUpOfDownIsWhatItWas(t *testing.T) {
	for _, x := range terms() {
		for by := range 4 {
			for from := range 4 {
				down, is := shift.Down(x, by, from)
				if got := shift.Up(down, by, from); is && !equal(got, x) {
					t.Fatalf("%v by %d from %d: %v", x, by, from, got)
				}
			}
		}
	}
}

func TestUpTwiceIsUpByBoth(t *testing.T) {
	for _, x := range terms() {
		for _, by := range [][2]int{{0, 0}, {0, 3}, {3, 0}, {1, 1}, {2, 5}, {most / 2, most / 2}, {most, 0}, {1, most - 1}} {
			for _, from := range []int{0, 1, 2, 3, most} {
				twice := shift.Up(shift.Up(x, by[0], from), by[1], from)
				once := shift.Up(x, by[0]+by[1], from)
				if !equal(twice, once) {
					t.Fatalf("%v by %v from %d: %v, %v", x, by, from, twice, once)
				}
			}
		}
	}
}

func TestSizesStay(t *testing.T) {
	for _, x := range append(terms(), wide(api.MaxSize-1, vari(9)), lams(api.MaxDepth-1, vari(99)), wide(api.MaxSize, vari(9))) {
		for by := range 3 {
			for from := range 3 {
				if n := size(shift.Up(x, by, from)); n != size(x) {
					t.Fatalf("%d nodes, up %d", size(x), n)
				}
				if y, is := shift.Down(x, by, from); is && size(y) != size(x) {
					t.Fatalf("%d nodes, down %d", size(x), size(y))
				}
			}
		}
	}
}

// R3

// scribble changes each node below, and what lies behind each list's end.
func scribble(t api.Term) {
	all := t.Args[:cap(t.Args)]
	for i := range all {
		scribble(all[i])
		all[i] = node(all[i].Kind+1, all[i].Head+1, sort)
	}
}

// answers are what both calls answer, whether something moves or not.
func answers(x api.Term) []api.Term {
	var l []api.Term
	for _, n := range [][2]int{{0, 0}, {1, 0}, {2, 9}, {0, 9}, {-1, 0}, {0, most + 1}} {
		l = append(l, shift.Up(x, n[0], n[1]))
		if down, is := shift.Down(x, n[0], n[1]); is {
			l = append(l, down)
		}
	}
	return l
}

func TestNothingIsShared(t *testing.T) {
	part := con(1, vari(4), meta(2, vari(5)))
	make1 := func() api.Term { return pi(fam(0, copied(part)), lam(vari(6, copied(part), con(3)))) }
	x := make1()
	want := answers(make1())
	for _, y := range answers(x) {
		scribble(y)
	}
	if !equal(x, make1()) {
		t.Error("a change to what was answered is seen in what was given")
	}
	got := answers(x)
	scribble(x)
	if !slices.EqualFunc(got, want, equal) {
		t.Error("a change to what was given is seen in what was answered")
	}
}

// No two lists of one answer share anything, even if those that were given do.
func TestNoTwoListsAreShared(t *testing.T) {
	part := con(1, vari(4))
	room := make([]api.Term, 0, 4)
	for _, y := range answers(con(0, part, part, node(api.Const, 2, room...))) {
		was := copied(y.Args[1])
		y.Args[0].Args[0].Head = 99
		_ = append(y.Args[0].Args, vari(7))
		_ = append(y.Args[2].Args, vari(7))
		if !equal(y.Args[1], was) || part.Args[0].Head != 4 {
			t.Error("one part twice")
		}
		if !nought(room[:1][0]) {
			t.Error("the room behind an empty list")
		}
	}
}

func TestNothingGivenIsChanged(t *testing.T) {
	for _, x := range terms() {
		was := copied(x)
		for by := -1; by < 3; by++ {
			for from := -1; from < 3; from++ {
				shift.Up(x, by, from)
				shift.Down(x, by, from)
			}
		}
		if !equal(x, was) {
			t.Fatalf("%v was %v", x, was)
		}
	}
}

// P1: the document's bound for all of it is 2^16 parts nested in one another.
func TestAsDeepAsIsPromised(t *testing.T) {
	holdWrong(t, lams(1<<16-1, vari(1<<16)), 1, 0)
}
