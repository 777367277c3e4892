// Package node tells what all layers ask of a node, wherever it stands.
package node

import "amanuensis/api"

// Binds is how many variables a node binds in one of its Args.
func Binds(n api.Term, arg int) int {
	if (n.Kind == api.Pi || n.Kind == api.Lam) && arg == len(n.Args)-1 {
		return 1
	}
	return 0
}
