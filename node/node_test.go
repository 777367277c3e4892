package node_test

import (
	"testing"

	"amanuensis/api"
	"amanuensis/node"
)

// A node binds a variable in the last one of its Args, if it is a Pi or a Lam.
func TestBinds(t *testing.T) {
	for kind := -1; kind <= api.Kinds; kind++ {
		for args := range 4 {
			n := api.Term{Kind: kind, Args: make([]api.Term, args)}
			for arg := -1; arg <= args; arg++ {
				want := 0
				if (kind == api.Pi || kind == api.Lam) && arg == args-1 {
					want = 1
				}
				if got := node.Binds(n, arg); got != want {
					t.Errorf("kind %d, arg %d of %d: %d, not %d", kind, arg, args, got, want)
				}
			}
		}
	}
}
