package steps

import (
	"iter"
	"strings"

	"cinnabar/api"
	"cinnabar/tokens"
)

// must refuses a term that cannot be what must stand there.
func must(ok bool, t api.Term) {
	if !ok {
		panic(api.Fault{At: t.At, Code: api.ErrSyntax})
	}
}

// isApp reports whether a term is an application of this name to so many arguments.
func isApp(t api.Term, name string, args int) bool {
	return t.Kind == api.TApp && t.Name == name && len(t.Args) == args
}

// isFieldName reports whether a term may name a field: it is a word that begins with a small letter.
func isFieldName(t api.Term) bool {
	return t.Kind == api.TApp && len(t.Args) == 0 && isWord(t.Name)
}

// isWord reports whether a name is a word that begins with a small letter, without points.
func isWord(name string) bool {
	return name != "" && name[0] >= 'a' && name[0] <= 'z' && tokens.Name(name) == name && !strings.Contains(name, ".")
}

// isMark reports whether a name marks a state variable, if it has one argument.
func isMark(name string) bool { return name == "!" || name == "!." || name == "!:" }

// isMarked reports whether a term is a mark of one term.
func isMarked(t api.Term) bool { return t.Kind == api.TApp && isMark(t.Name) && len(t.Args) == 1 }

// isPath reports whether a term is a field, or several of them with ^ between.
func isPath(t api.Term) bool {
	for isApp(t, "^", 2) && isFieldName(t.Args[0]) {
		t = t.Args[1]
	}
	return isFieldName(t)
}

// isGet reports whether a term takes a field of another term.
func isGet(t api.Term) bool { return isApp(t, "^", 2) && isPath(t.Args[1]) }

// isSet reports whether a term replaces a field of another term.
func isSet(t api.Term) bool { return isApp(t, ":=", 2) && isGet(t.Args[0]) }

// isLambda reports whether a term must be a lambda goal.
func isLambda(t api.Term) bool {
	if !isApp(t, ":-", 2) || !isApp(t.Args[0], "is", 2) {
		return false
	}
	h := t.Args[0].Args[0]
	return h.Kind == api.TApp && h.Name == "pred"
}

// isConditional reports whether a term is a condition with a then part and an else part, with an arrow.
func isConditional(t api.Term) bool { return isApp(t, ";", 2) && isApp(t.Args[0], "->", 2) }

// sides yields the parts between which an operator stands, also where it stands in one of its sides again.
func sides(t api.Term, operator string) iter.Seq[api.Term] {
	return func(yield func(api.Term) bool) {
		rest := []api.Term{t}
		for len(rest) > 0 {
			last := len(rest) - 1
			x := rest[last]
			rest = rest[:last]
			if isApp(x, operator, 2) && !isConditional(x) {
				rest = append(rest, x.Args[1], x.Args[0])
			} else if !yield(x) {
				return
			}
		}
	}
}

// within yields terms and those in them, in preorder. It keeps a stack of its own, as a list may be longer than calls can be nested.
func within(l []api.Term) iter.Seq[*api.Term] {
	return func(yield func(*api.Term) bool) {
		var stack []*api.Term
		for {
			for i := len(l) - 1; i >= 0; i-- {
				stack = append(stack, &l[i])
			}
			if len(stack) == 0 {
				return
			}
			last := len(stack) - 1
			t := stack[last]
			stack = stack[:last]
			if !yield(t) {
				return
			}
			l = t.Args
		}
	}
}

// Places of what is copied.
const (
	kept    = iota // they stay
	cleared        // they are 0
)

// copied returns a term in new memory.
func copied(t api.Term, places int) api.Term {
	l := []api.Term{t}
	for x := range within(l) {
		if places == cleared {
			x.At = 0
		}
		x.Args = append([]api.Term(nil), x.Args...)
	}
	return l[0]
}

// mapped returns what a function gives for each element of a list.
func mapped[X, Y any](l []X, give func(X) Y) []Y {
	var list []Y
	for _, x := range l {
		list = append(list, give(x))
	}
	return list
}
