package pretty

import (
	"cinnabar/api"
	"cinnabar/terms"
)

// What a place permits that is no side of an operator; and the priority of an operator without arguments, which is more than any side permits.
const (
	mostAlone    = 1200
	mostInRow    = 999
	bareOperator = 1201
)

// Kinds of forms of applications.
const (
	plain   = iota // the name, and arguments in brackets
	list           // [ ]
	braces         // { }
	bang           // ! !. or !: and its variable
	closure        // a variable, and arguments in brackets
	infix
	prefix
	prefixTwo
)

// A form says how an application is written.
type form struct {
	kind        int
	priority    int // it stands in brackets where less is permitted
	left, right int // what the sides of an operator permit
}

// formOf returns the form of an application.
func formOf(t api.Term) form {
	switch {
	case t.Name == "[|]":
		return form{kind: list}
	case t.Name == "{}":
		return form{kind: braces}
	case isBang(t):
		return form{kind: bang}
	case isClosure(t):
		return form{kind: closure}
	}
	switch len(t.Args) {
	case 0:
		if isBareOperator(t) {
			return form{priority: bareOperator}
		}
	case 1:
		return formOfOne(t)
	case 2:
		return formOfTwo(t)
	}
	return form{}
}

// isBang reports whether an application is a mark directly in front of a variable.
func isBang(t api.Term) bool {
	marked := t.Name == "!" || t.Name == "!." || t.Name == "!:"
	return marked && len(t.Args) == 1 && t.Args[0].Kind == api.TVar
}

// isClosure reports whether an application is a variable with arguments.
func isClosure(t api.Term) bool {
	return t.Name == "call" && len(t.Args) > 1 && t.Args[0].Kind == api.TVar
}

// isBareOperator reports whether a term is an operator without arguments.
func isBareOperator(t api.Term) bool {
	if t.Kind != api.TApp || len(t.Args) > 0 {
		return false
	}
	p, _, _ := terms.Infix(t.Name)
	q, _, _ := terms.Prefix(t.Name)
	return p > 0 || q > 0
}

// formOfOne is formOf with one argument.
func formOfOne(t api.Term) form {
	p, right, two := terms.Prefix(t.Name)
	if p == 0 || two || isMisread(t.Name, first(t.Args[0], right)) {
		return form{}
	}
	return form{kind: prefix, priority: p, right: right}
}

// formOfTwo is formOf with two arguments.
func formOfTwo(t api.Term) form {
	if p, left, right := terms.Infix(t.Name); p > 0 {
		if takes(t.Args[0], p) {
			left--
		}
		return form{kind: infix, priority: p, left: left, right: right}
	}
	p, right, two := terms.Prefix(t.Name)
	if !two || isMisread(t.Name, first(t.Args[0], 0)) {
		return form{}
	}
	return form{kind: prefixTwo, priority: p, right: right}
}

// takes reports whether a term of an operator with a priority takes an infix operator of this priority behind it into its last side.
func takes(t api.Term, p int) bool {
	q, last := operatorOf(t)
	return q == p && last == p
}

// operatorOf returns the priority of the operator of which a term has the name and as many arguments as it has terms, and what its last side permits.
func operatorOf(t api.Term) (p, last int) {
	if t.Kind != api.TApp {
		return 0, 0
	}
	q, right, two := terms.Prefix(t.Name)
	switch {
	case len(t.Args) == 1 && !two, len(t.Args) == 2 && two:
		return q, right
	case len(t.Args) == 2:
		p, _, last = terms.Infix(t.Name)
	}
	return p, last
}

// isMisread reports whether a prefix operator is read as something else in front of a token: with an int as a negative one, and in front of an infix operator as an atom.
func isMisread(operator string, next api.Token) bool {
	switch next.Kind {
	case api.TokInt:
		return operator == "-"
	case api.TokName:
		// As a name a comma stands in apostrophes, where it is no operator.
		p, _, _ := terms.Infix(next.Text)
		q, _, _ := terms.Prefix(next.Text)
		return p > 0 && q == 0 && next.Text != ","
	}
	return false
}

// first returns the first token of a side of an operator, as it is written where m is permitted: its kind, and of a name its text.
func first(t api.Term, m int) api.Token {
	switch t.Kind {
	case api.TVar:
		return api.Token{Kind: api.TokVar}
	case api.TInt:
		if t.Num < 0 {
			return api.Token{Kind: api.TokName, Text: "-"}
		}
		return api.Token{Kind: api.TokInt}
	case api.TChar:
		return api.Token{Kind: api.TokChar}
	case api.TText:
		return api.Token{Kind: api.TokText}
	}
	f := formOf(t)
	switch {
	case f.priority > m || f.kind == list || f.kind == braces:
		return api.Token{Kind: api.TokPunct}
	case f.kind == closure:
		return first(t.Args[0], m)
	case f.kind == infix:
		return first(t.Args[0], f.left)
	}
	return api.Token{Kind: api.TokName, Text: t.Name}
}
