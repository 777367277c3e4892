// Package node has what layers do alike with a node, wherever it stands: tell where it binds, and renumber what is free in it.
package node

import "amanuensis/api"

// Binds is how many variables a node binds in one of its Args.
func Binds(n api.Term, arg int) int {
	if (n.Kind == api.Pi || n.Kind == api.Lam) && arg == len(n.Args)-1 {
		return 1
	}
	return 0
}

// Renumber is a term whose free variables have become what to tells of them; false where it tells nothing of one. It shares nothing with the term.
func Renumber(t api.Term, to func(free int) (int, bool)) (api.Term, bool) {
	return renumber(t, 0, to)
}

// renumber is Renumber below so many nodes that bind.
func renumber(t api.Term, binders int, to func(free int) (int, bool)) (api.Term, bool) {
	head := t.Head
	if t.Kind == api.Var && t.Head >= binders {
		free, is := to(t.Head - binders)
		if !is {
			return api.Term{}, false
		}
		// The sum may wrap around: rule R7 has it so.
		head = free + binders
	}
	args, is := each(t.Args, func(i int, a api.Term) (api.Term, bool) {
		return renumber(a, binders+Binds(t, i), to)
	})
	if !is {
		return api.Term{}, false
	}
	return api.Term{Kind: t.Kind, Head: head, Args: args}, true
}

// each is a list of what an element becomes, by its place; false where one becomes nothing.
func each[A, B any](l []A, become func(i int, a A) (B, bool)) ([]B, bool) {
	if len(l) == 0 {
		return nil, true
	}
	out := make([]B, len(l))
	for i, a := range l {
		b, is := become(i, a)
		if !is {
			return nil, false
		}
		out[i] = b
	}
	return out, true
}
