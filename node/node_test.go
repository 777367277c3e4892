package node_test

import (
	"slices"
	"testing"

	"amanuensis/api"
	"amanuensis/node"
)

// A node binds a variable in the last one of its Args, if it is a Pi or a Lam.
func TestBinds(t *testing.T) {
	for kind := -1; kind <= api.Kinds; kind++ {
		for args := range 4 {
			n := api.Term{Kind: kind, Args: make([]api.Term, args)}
			for arg := -1; arg <= args; arg++ {
				want := 0
				if (kind == api.Pi || kind == api.Lam) && arg == args-1 {
					want = 1
				}
				if got := node.Binds(n, arg); got != want {
					t.Errorf("kind %d, arg %d of %d: %d, not %d", kind, arg, args, got, want)
				}
			}
		}
	}
}

func vari(head int, args ...api.Term) api.Term {
	return api.Term{Kind: api.Var, Head: head, Args: args}
}

func of(kind, head int, args ...api.Term) api.Term {
	return api.Term{Kind: kind, Head: head, Args: args}
}

func equal(a, b api.Term) bool {
	return a.Kind == b.Kind && a.Head == b.Head && slices.EqualFunc(a.Args, b.Args, equal)
}

// tenfold tells of what is from 2 on nothing.
func tenfold(free int) (int, bool) { return free*10 + 10, free < 2 }

// Free variables alone become what is told of them, by what they are, wherever they stand.
func TestRenumber(t *testing.T) {
	for _, x := range []struct {
		name    string
		t, want api.Term
		is      bool
	}{
		{"free", vari(1), vari(20), true},
		{"0", vari(0), vari(10), true},
		{"nothing is told", vari(2), api.Term{}, false},
		{"no variables", of(api.Const, 1, of(api.Sort, 0), of(api.Fam, 2), of(api.Meta, 3)), of(api.Const, 1, of(api.Sort, 0), of(api.Fam, 2), of(api.Meta, 3)), true},
		{"Args of all kinds", of(api.Fam, 5, of(api.Meta, 6, vari(0)), vari(1, vari(0))), of(api.Fam, 5, of(api.Meta, 6, vari(10)), vari(20, vari(10))), true},
		{"below Lam", of(api.Lam, 0, of(api.Const, 0, vari(0), vari(1), vari(2))), of(api.Lam, 0, of(api.Const, 0, vari(0), vari(11), vari(21))), true},
		{"below Lam, nothing is told", of(api.Lam, 0, vari(3)), api.Term{}, false},
		{"Pi", of(api.Pi, 0, vari(1), vari(1)), of(api.Pi, 0, vari(20), vari(11)), true},
		{"below both", of(api.Pi, 0, vari(0), of(api.Lam, 0, vari(2, vari(1)))), of(api.Pi, 0, vari(10), of(api.Lam, 0, vari(12, vari(1)))), true},
		{"nothing is told of the first one of many", of(api.Const, 0, vari(2), vari(0)), api.Term{}, false},
		{"nothing is told of the last one of many", of(api.Const, 0, vari(0), vari(2)), api.Term{}, false},
		{"nothing is told within Args of one of which something is", vari(0, vari(2)), api.Term{}, false},
		{"below 0 is not free", vari(-1), vari(-1), true},
	} {
		got, is := node.Renumber(x.t, tenfold)
		if is != x.is || !equal(got, x.want) {
			t.Errorf("%s: %v, %v", x.name, got, is)
		}
	}
}

func TestRenumberSharesNothing(t *testing.T) {
	part := of(api.Const, 1, vari(7))
	x := of(api.Lam, 0, of(api.Const, 0, part, part))
	got, _ := node.Renumber(x, func(free int) (int, bool) { return free, true })
	got.Args[0].Args[0].Args[0].Head = 9
	if !equal(got.Args[0].Args[1], part) || part.Args[0].Head != 7 {
		t.Errorf("%v of %v", got, x)
	}
}
