package general_test

import (
	"fmt"
	"math"
	"slices"
	"testing"

	"amanuensis/api"
	"amanuensis/general"
)

var sort = api.Term{Kind: api.Sort}

func node(kind, head int, args ...api.Term) api.Term {
	return api.Term{Kind: kind, Head: head, Args: args}
}

func pi(a, b api.Term) api.Term                { return node(api.Pi, 0, a, b) }
func lam(a api.Term) api.Term                  { return node(api.Lam, 0, a) }
func fam(head int, args ...api.Term) api.Term  { return node(api.Fam, head, args...) }
func vari(head int, args ...api.Term) api.Term { return node(api.Var, head, args...) }
func con(head int, args ...api.Term) api.Term  { return node(api.Const, head, args...) }
func hole(head int, args ...api.Term) api.Term { return node(api.Meta, head, args...) }

func list(l ...api.Term) []api.Term { return l }

func times(n int, t api.Term) []api.Term { return slices.Repeat(list(t), n) }

// pis is a Pi of each, one in the other, the last one to the last one.
func pis(l ...api.Term) api.Term {
	t := l[len(l)-1]
	for _, a := range slices.Backward(l[:len(l)-1]) {
		t = pi(a, t)
	}
	return t
}

// asking is a Pi of each, one in the other, to a type.
func asking(l []api.Term, t api.Term) api.Term {
	return pis(append(slices.Clone(l), t)...)
}

func lams(n int, t api.Term) api.Term {
	for range n {
		t = lam(t)
	}
	return t
}

// down are variables, from the one below a number to the one 0.
func down(n int) []api.Term {
	var l []api.Term
	for n > 0 {
		n--
		l = append(l, vari(n))
	}
	return l
}

func equal(a, b api.Term) bool {
	return a.Kind == b.Kind && a.Head == b.Head && slices.EqualFunc(a.Args, b.Args, equal)
}

// told is what a call tells.
type told struct {
	d api.MetaDecl
	x api.Term
	e api.Errno
}

// unknown is what is told where nothing is wrong: a meta of a type, in entries, and a term.
func unknown(entries []api.Term, t, x api.Term) told {
	return told{api.MetaDecl{Ctx: entries, T: t}, x, api.OK}
}

func wrong(e api.Errno) told { return told{e: e} }

func (a told) equal(b told) bool {
	return a.e == b.e && a.d.Param == b.d.Param && slices.EqualFunc(a.d.Ctx, b.d.Ctx, equal) && equal(a.d.T, b.d.T) && equal(a.x, b.x)
}

// short is the beginning of how something is written.
func short(x any) string {
	s := fmt.Sprint(x)
	if len(s) > 300 {
		s = s[:300] + " .."
	}
	return s
}

func hold(t *testing.T, name string, ctx []api.Term, a api.Term, no int, want told) {
	t.Helper()
	d, x, e := general.General(ctx, a, no)
	if got := (told{d, x, e}); !got.equal(want) {
		t.Errorf("%s: of %d entries, and no %d: %s, not %s", name, len(ctx), no, short(got), short(want))
	}
}

var tm, nat = fam(6), fam(0)

// P16.1

func TestTheExample(t *testing.T) {
	hold(t, "of Pi of tm of tm", nil, pi(tm, tm), 0, unknown(list(tm), tm, lam(hole(0, vari(0)))))
}

func TestContextsAndTypes(t *testing.T) {
	row := func(n api.Term) api.Term { return fam(9, n) }
	entries := list(nat, row(vari(0)), fam(3, vari(1), con(1), vari(5)))
	tests := []struct {
		name string
		ctx  []api.Term
		a    api.Term
		want told
	}{
		{"a Fam", nil, nat, unknown(nil, nat, hole(7))},
		{"a Fam in an empty context", list(), nat, unknown(nil, nat, hole(7))},
		{"a Fam with Args", nil, row(con(1)), unknown(nil, row(con(1)), hole(7))},
		{"a Fam with Args of all kinds", nil, fam(3, lam(vari(0)), sort, pi(sort, vari(2))), unknown(nil, fam(3, lam(vari(0)), sort, pi(sort, vari(2))), hole(7))},
		{"a Fam in a context of one", list(tm), nat, unknown(list(tm), nat, hole(7, vari(0)))},
		{"a Fam with Args in a context of one", list(nat), row(vari(0)), unknown(list(nat), row(vari(0)), hole(7, vari(0)))},
		{"a Fam in a context of three", entries, row(vari(2)), unknown(entries, row(vari(2)), hole(7, vari(2), vari(1), vari(0)))},
		{"of one thing", list(nat), pi(tm, nat), unknown(list(nat, tm), nat, lam(hole(7, vari(1), vari(0))))},
		{"of two things", nil, pis(tm, nat, tm), unknown(list(tm, nat), tm, lam(lam(hole(7, vari(1), vari(0)))))},
		{"of two things, in a context of three", entries, pis(row(vari(2)), row(vari(0)), row(vari(4))), unknown(append(slices.Clone(entries), row(vari(2)), row(vari(0))), row(vari(4)), lams(2, hole(7, vari(4), vari(3), vari(2), vari(1), vari(0))))},
		{"of what is named behind", nil, pis(nat, row(vari(0)), fam(3, vari(1), vari(1), con(2, vari(1))), row(vari(2))), unknown(list(nat, row(vari(0)), fam(3, vari(1), vari(1), con(2, vari(1)))), row(vari(2)), lams(3, hole(7, down(3)...)))},
		{"of the nearest and the farthest entry", list(nat, nat, tm), pis(row(vari(2)), row(vari(1)), fam(3, vari(4), vari(2), vari(0))), unknown(list(nat, nat, tm, row(vari(2)), row(vari(1))), fam(3, vari(4), vari(2), vari(0)), lams(2, hole(7, down(5)...)))},
		{"of metas", list(row(hole(1))), pi(row(hole(0, vari(0))), row(hole(2))), unknown(list(row(hole(1)), row(hole(0, vari(0)))), row(hole(2)), lam(hole(7, vari(1), vari(0))))},
		{"of variables that there are not", nil, pi(row(vari(3)), row(vari(9))), unknown(list(row(vari(3))), row(vari(9)), lam(hole(7, vari(0))))},
		{"of itself, as it seems", list(row(hole(7))), row(hole(7)), unknown(list(row(hole(7))), row(hole(7)), hole(7, vari(0)))},
		{"the greatest Fam", nil, pi(fam(math.MaxInt), fam(math.MaxInt)), unknown(list(fam(math.MaxInt)), fam(math.MaxInt), lam(hole(7, vari(0))))},
	}
	for _, x := range tests {
		hold(t, x.name, x.ctx, x.a, 7, x.want)
	}
}

// Each Meta has the number that is handed in, whatever that is, from 0 on; below 0 all is wrong.
func TestNumbers(t *testing.T) {
	for _, no := range []int{0, 1, 2, 39, 40, 41, 1000, 1 << 20, 1 << 40, math.MaxInt - 1, math.MaxInt} {
		hold(t, "a Fam", nil, nat, no, unknown(nil, nat, hole(no)))
		hold(t, "of things", list(tm), pis(nat, nat, tm), no, unknown(list(tm, nat, nat), tm, lams(2, hole(no, down(3)...))))
	}
	for _, no := range []int{-1, -2, -40, -1 << 20, math.MinInt + 1, math.MinInt} {
		for _, ctx := range [][]api.Term{nil, list(tm), list(sort), times(40, nat), times(41, nat)} {
			for _, a := range list(nat, pi(nat, nat), sort, pi(sort, nat), pi(nat, con(0)), node(-1, 0)) {
				hold(t, "below 0", ctx, a, no, wrong(api.ErrArg))
			}
		}
	}
}

// Contexts, and what is asked for, of all lengths: each entry is another one, and so is each thing.
func TestLengths(t *testing.T) {
	entry := func(i int) api.Term { return fam(i, con(i), vari(0)) }
	for entries := range 44 {
		for asked := range 44 {
			var ctx, more []api.Term
			for i := range entries {
				ctx = append(ctx, entry(i))
			}
			for i := range asked {
				more = append(more, entry(100+i))
			}
			n := entries + asked
			want := unknown(slices.Concat(ctx, more), entry(99), lams(asked, hole(5, down(n)...)))
			if n > api.MaxList {
				want = wrong(api.ErrArg)
			}
			hold(t, fmt.Sprint(asked, " things"), ctx, asking(more, entry(99)), 5, want)
		}
	}
}

// outside are types of no family, without what they are told to ask for.
func outside() map[string]api.Term {
	return map[string]api.Term{
		"a Sort": sort, "a Var": vari(0), "a Var with Args": vari(1, con(0)), "a Const": con(0), "a Const of a Fam": con(0, nat),
		"a Lam": lam(vari(0)), "a Lam of a Fam": lam(nat), "a Meta": hole(0), "a Meta with Args": hole(7, vari(0)),
	}
}

func TestWhatATypeComesTo(t *testing.T) {
	for name, x := range outside() {
		for n := range 6 {
			hold(t, fmt.Sprint(name, ", behind ", n), nil, asking(times(n, nat), x), 0, wrong(api.ErrOutside))
			hold(t, fmt.Sprint(name, ", behind ", n, ", in a context"), list(nat, tm), asking(times(n, nat), x), 0, wrong(api.ErrOutside))
		}
		hold(t, name+", behind 40", nil, asking(times(40, nat), x), 0, wrong(api.ErrOutside))
		hold(t, name+", in 40 entries", times(40, nat), x, 0, wrong(api.ErrOutside))
	}
}

func TestThingsOfNoFamily(t *testing.T) {
	none := outside()
	none["a Pi"], none["a Pi of Pis"] = pi(nat, nat), pi(pi(nat, tm), tm)
	for name, x := range none {
		for at := range 4 {
			l := times(4, nat)
			l[at] = x
			name := fmt.Sprint(name, ", the thing ", at)
			hold(t, name+" of all", l, nat, 0, wrong(api.ErrOutside))
			hold(t, name+" that is asked for", nil, asking(l, nat), 0, wrong(api.ErrOutside))
			hold(t, name+" of the context, and more is asked for", l, pis(nat, tm, nat), 0, wrong(api.ErrOutside))
			hold(t, name+" that is asked for, in a context", list(nat, tm), asking(l, nat), 0, wrong(api.ErrOutside))
			hold(t, name+" of half of them", l[:2], asking(l[2:], nat), 0, wrong(api.ErrOutside))
			hold(t, name+" of both", l, asking(l, x), 0, wrong(api.ErrOutside))
		}
		for at := range 40 {
			l := times(40, tm)
			l[at] = x
			hold(t, fmt.Sprint(name, ", ", at, " of 40"), l[:20], asking(l[20:], tm), 0, wrong(api.ErrOutside))
		}
	}
	// In a Fam all may stand.
	hold(t, "in a Fam", list(fam(1, pi(nat, sort))), pi(fam(2, sort), fam(3, lam(hole(0)))), 0,
		unknown(list(fam(1, pi(nat, sort)), fam(2, sort)), fam(3, lam(hole(0))), lam(hole(0, vari(1), vari(0)))))
}

// What may not be, and what there is too much of, is told ahead of what is no Fam, wherever each of them stands.
func TestWhichErrorIsTold(t *testing.T) {
	bad := node(api.Kinds, 0)
	for name, x := range outside() {
		for _, l := range [][]api.Term{list(x, bad), list(bad, x), list(nat, x, bad), list(x, bad, nat), list(bad, nat, x)} {
			hold(t, name+", in the context", l, nat, 0, wrong(api.ErrArg))
			hold(t, name+", asked for", nil, asking(l, nat), 0, wrong(api.ErrArg))
			hold(t, name+", come to", list(nat), asking(l[:len(l)-1], l[len(l)-1]), 0, wrong(api.ErrArg))
			hold(t, name+", in both", l[:1], asking(l[1:], nat), 0, wrong(api.ErrArg))
			hold(t, name+", in both, and come to", l[:1], asking(l[1:len(l)-1], l[len(l)-1]), 0, wrong(api.ErrArg))
		}
		hold(t, name+", and no", list(x), nat, -1, wrong(api.ErrArg))
		hold(t, name+", come to, and no", nil, pi(nat, x), -1, wrong(api.ErrArg))
		for at := range 41 {
			l := times(41, nat)
			l[at] = x
			for n := range 42 {
				hold(t, fmt.Sprint(name, ", ", at, " of 41, ", n, " in the context"), l[:n], asking(l[n:], nat), 0, wrong(api.ErrArg))
			}
		}
		for n := range 42 {
			hold(t, fmt.Sprint(name, ", come to behind 41, ", n, " in the context"), times(n, nat), asking(times(41-n, nat), x), 0, wrong(api.ErrArg))
		}
	}
}
