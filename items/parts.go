package items

import (
	"iter"

	"cinnabar/api"
)

// must refuses a term that cannot be what must stand there.
func must(ok bool, t api.Term) {
	if !ok {
		panic(api.Fault{At: t.At, Code: api.ErrSyntax})
	}
}

// isApp reports whether a term is an application of this name to so many arguments.
func isApp(t api.Term, name string, args int) bool {
	return t.Kind == api.TApp && t.Name == name && len(t.Args) == args
}

// mustApp refuses a term that is not such an application.
func mustApp(t api.Term, name string, args int) { must(isApp(t, name, args), t) }

// isAtom reports whether a term is a name without arguments.
func isAtom(t api.Term) bool { return t.Kind == api.TApp && len(t.Args) == 0 }

// chain yields the parts between which an infix operator stands, nested to the right.
func chain(t api.Term, operator string) iter.Seq[api.Term] {
	return func(yield func(api.Term) bool) {
		for isApp(t, operator, 2) {
			if !yield(t.Args[0]) {
				return
			}
			t = t.Args[1]
		}
		yield(t)
	}
}

// elements yields the elements of a list, which must end in [].
func elements(t api.Term) iter.Seq[api.Term] {
	return func(yield func(api.Term) bool) {
		for isApp(t, "[|]", 2) {
			if !yield(t.Args[0]) {
				return
			}
			t = t.Args[1]
		}
		mustApp(t, "[]", 0)
	}
}

// Places of what is copied.
const (
	kept    = iota // they stay
	cleared        // they are 0
)

// copied returns a term in new memory. A term may be longer than calls can be nested, but only in its last arguments.
func copied(t api.Term, places int) api.Term {
	var whole api.Term
	for to := &whole; ; to = &to.Args[len(to.Args)-1] {
		*to = t
		to.Args = nil
		if places == cleared {
			to.At = 0
		}
		last := len(t.Args) - 1
		if last < 0 {
			return whole
		}
		to.Args = make([]api.Term, last+1)
		for i, x := range t.Args[:last] {
			to.Args[i] = copied(x, places)
		}
		t = t.Args[last]
	}
}

// mapped returns what a function gives for each element of a list.
func mapped[X, Y any](l []X, give func(X) Y) []Y {
	var list []Y
	for _, x := range l {
		list = append(list, give(x))
	}
	return list
}
