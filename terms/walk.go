package terms

import (
	"iter"

	"cinnabar/api"
)

// A part is a term in another one, with its level: how deep it is nested there.
type part struct {
	term  *api.Term
	level int
}

// all goes through a term and those in it, in preorder, each with its level, which is 1 for the whole. It keeps a stack of its own, as a list may be longer than calls can be nested.
func all(t api.Term) iter.Seq2[int, api.Term] {
	return func(yield func(int, api.Term) bool) {
		stack := []part{{&t, 1}}
		for len(stack) > 0 {
			last := len(stack) - 1
			p := stack[last]
			stack = stack[:last]
			if !yield(p.level, *p.term) {
				return
			}
			for i := len(p.term.Args) - 1; i >= 0; i-- {
				level := p.level + 1
				if i == 1 && isChain(*p.term) {
					level = p.level
				}
				stack = append(stack, part{&p.term.Args[i], level})
			}
		}
	}
}

// isChain reports whether a term goes on with its second argument, as a list does, without being nested deeper.
func isChain(t api.Term) bool {
	if t.Kind != api.TApp || len(t.Args) != 2 {
		return false
	}
	switch t.Name {
	case ",", ";", "&", "[|]":
		return true
	}
	return false
}

// Depth returns the nesting of a term.
func Depth(t api.Term) int {
	depth := 0
	for level := range all(t) {
		depth = max(depth, level)
	}
	return depth
}

// Size returns the number of terms in a term, itself included.
func Size(t api.Term) int {
	size := 0
	for range all(t) {
		size++
	}
	return size
}

// Same reports whether two terms are equal but for their places.
func Same(a, b api.Term) bool {
	pairs := [][2]*api.Term{{&a, &b}}
	for len(pairs) > 0 {
		last := len(pairs) - 1
		x, y := pairs[last][0], pairs[last][1]
		pairs = pairs[:last]
		if x.Kind != y.Kind || x.Name != y.Name || x.Num != y.Num || len(x.Args) != len(y.Args) {
			return false
		}
		for i := len(x.Args) - 1; i >= 0; i-- {
			pairs = append(pairs, [2]*api.Term{&x.Args[i], &y.Args[i]})
		}
	}
	return true
}
