// Package term is layer 1: see shared/doc/01-term.md.
package term

import (
	"iter"

	"amanuensis/api"
	"amanuensis/node"
)

// Size is how many nodes a term has, Depth how deep it is.
func Size(t api.Term) int {
	size := 0
	for range nodes(t) {
		size++
	}
	return size
}

func Depth(t api.Term) int {
	depth := 0
	for at := range nodes(t) {
		depth = max(depth, at.depth)
	}
	return depth
}

// May tells whether a term may be at all.
func May(t api.Term) bool {
	size := 0
	// The limits are held at each node, and not by Size and Depth, so that a term far beyond them is left early.
	for at, n := range nodes(t) {
		size++
		if size > api.MaxSize || at.depth > api.MaxDepth || !shaped(n) {
			return false
		}
	}
	return true
}

// Same tells whether two terms are the same.
func Same(a, b api.Term) bool {
	if a.Kind != b.Kind || a.Head != b.Head || len(a.Args) != len(b.Args) {
		return false
	}
	for i := range a.Args {
		if !Same(a.Args[i], b.Args[i]) {
			return false
		}
	}
	return true
}

// Scoped tells whether all variables are of so many, and all metas.
func Scoped(t api.Term, vars, metas int) bool {
	for at, n := range nodes(t) {
		// The sum may wrap around: rule R7 has it so.
		if n.Kind == api.Var && n.Head >= vars+at.binders {
			return false
		}
		if n.Kind == api.Meta && n.Head >= metas {
			return false
		}
	}
	return true
}

// Own is a term once more.
func Own(t api.Term) api.Term {
	own := api.Term{Kind: t.Kind, Head: t.Head}
	if len(t.Args) == 0 {
		return own
	}
	own.Args = make([]api.Term, len(t.Args))
	for i, a := range t.Args {
		own.Args[i] = Own(a)
	}
	return own
}

// place is where a node stands: how many nodes are on the way down to it, with itself, and how many of those above bind around it.
type place struct {
	depth, binders int
}

// nodes goes through a term, each node ahead of its Args.
func nodes(t api.Term) iter.Seq2[place, api.Term] {
	return func(yield func(place, api.Term) bool) {
		visit(t, place{depth: 1}, yield)
	}
}

// visit answers false where the loop was left, so that nothing above goes on.
func visit(n api.Term, at place, yield func(place, api.Term) bool) bool {
	if !yield(at, n) {
		return false
	}
	for i, a := range n.Args {
		if !visit(a, below(n, at, i), yield) {
			return false
		}
	}
	return true
}

// below is the place of an Arg of a node.
func below(n api.Term, at place, arg int) place {
	at.depth++
	at.binders += node.Binds(n, arg)
	return at
}

// shaped tells whether a node has a kind, and the head and the number of Args that go with it.
func shaped(n api.Term) bool {
	switch n.Kind {
	case api.Sort:
		return n.Head == 0 && len(n.Args) == 0
	case api.Pi:
		return n.Head == 0 && len(n.Args) == 2
	case api.Lam:
		return n.Head == 0 && len(n.Args) == 1
	}
	return n.Kind > api.Sort && n.Kind < api.Kinds && n.Head >= 0
}
