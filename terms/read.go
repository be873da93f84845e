package terms

import (
	"strconv"

	"cinnabar/api"
)

// What a term may have at most as a whole and in brackets, and as an argument or an element.
const (
	mostAlone = 1200
	mostInRow = 999
)

// Kinds of open terms, by what stands behind a part of them.
const (
	whole     = iota // what the reader leaves alone
	operator         // the next part of an operator's application, or nothing
	arguments        // a comma and another argument, or )
	brackets         // )
	braces           // }
	elements         // a comma and another element, | and the rest, or ]
	rest             // ]
)

// An open term has begun, and waits for a part.
type open struct {
	kind     int
	most     int // what the part may have at most
	name     string
	at       int
	parts    []api.Term // those that were read
	places   []int      // of elements: where they begin
	need     int        // of an operator: how many parts it has
	last     int        // of an operator: what its last part may have at most
	priority int        // of an operator: what its application has
}

// A reader goes through tokens. It keeps the open terms on a stack of its own, each one in that before it, as they may be nested deeper than calls.
type reader struct {
	tokens   []api.Token
	at       int       // the index of the next token
	end      api.Token // what follows the tokens
	stack    []open
	term     api.Term // what was completed last
	priority int      // that of the term
}

// peek returns the next token.
func (r *reader) peek() api.Token {
	if r.at < len(r.tokens) {
		return r.tokens[r.at]
	}
	return r.end
}

// take returns the next token, and goes behind it.
func (r *reader) take() api.Token {
	t := r.peek()
	r.at++
	return t
}

// skip goes behind the next token, if it is this punctuation.
func (r *reader) skip(text string) bool {
	if punct(r.peek()) != text {
		return false
	}
	r.at++
	return true
}

// punct returns the text of a token of punctuation, and no text of another one.
func punct(t api.Token) string {
	if t.Kind == api.TokPunct {
		return t.Text
	}
	return ""
}

// refusal returns the fault of a token that cannot stand where it does.
func refusal(t api.Token) api.Fault {
	if t.Kind == api.TokEnd {
		return api.Fault{At: t.At, Code: api.ErrEnd}
	}
	return api.Fault{At: t.At, Code: api.ErrSyntax}
}

// read returns the term that begins here.
func (r *reader) read() api.Term {
	r.push(open{kind: whole, most: mostAlone})
	for len(r.stack) > 0 {
		complete := r.begin()
		for complete && len(r.stack) > 0 {
			complete = !r.pushInfix() && r.give()
		}
	}
	return r.term
}

// push opens a term; no term is complete then.
func (r *reader) push(o open) bool {
	r.stack = append(r.stack, o)
	return false
}

// have completes a term that is no operator's application.
func (r *reader) have(t api.Term) bool {
	r.term, r.priority = t, 0
	return true
}

// top returns the innermost open term.
func (r *reader) top() *open { return &r.stack[len(r.stack)-1] }

// begin reads the beginning of a term, and reports whether it is complete.
func (r *reader) begin() bool {
	t := r.take()
	if !standsFirst(t) {
		panic(refusal(t))
	}
	if o := r.top(); o.kind == arguments && len(o.parts) == maxArgs(o.name, o.parts) {
		panic(api.Fault{At: t.At, Code: api.ErrLimit})
	}
	switch t.Kind {
	case api.TokName:
		return r.beginName(t)
	case api.TokVar:
		return r.beginVariable(t)
	case api.TokInt:
		return r.have(number("", t))
	case api.TokChar:
		return r.have(api.Term{Kind: api.TChar, Num: int64(t.Text[0]), At: t.At})
	case api.TokText:
		return r.have(api.Term{Kind: api.TText, Name: t.Text, At: t.At})
	}
	return r.beginBracket(t)
}

// number returns the int of a token with a sign in front.
func number(sign string, t api.Token) api.Term {
	// Check has seen to it that these are digits that an int holds.
	n, _ := strconv.ParseInt(sign+t.Text, 10, 64)
	return api.Term{Kind: api.TInt, Num: n, At: t.At}
}

func variable(t api.Token) api.Term {
	return api.Term{Kind: api.TVar, Name: t.Text, At: t.At}
}

func application(name string, at int, args []api.Term) api.Term {
	return api.Term{Kind: api.TApp, Name: name, Args: args, At: at}
}

func (r *reader) beginVariable(t api.Token) bool {
	if !r.skip("((") {
		return r.have(variable(t))
	}
	return r.push(open{kind: arguments, most: mostInRow, name: "call", at: t.At, parts: []api.Term{variable(t)}})
}

func (r *reader) beginName(t api.Token) bool {
	next := r.peek()
	switch {
	case r.skip("(("):
		return r.push(open{kind: arguments, most: mostInRow, name: t.Text, at: t.At})
	case t.Text == "-" && next.Kind == api.TokInt:
		n := number("-", r.take())
		n.At = t.At
		return r.have(n)
	case isBang(t.Text) && next.Kind == api.TokVar:
		return r.have(application(t.Text, t.At, []api.Term{variable(r.take())}))
	}
	p, right, two := Prefix(t.Text)
	if p == 0 || p > r.top().most || !beginsOperand(next) {
		return r.have(checked(application(t.Text, t.At, nil)))
	}
	o := open{kind: operator, most: right, name: t.Text, at: t.At, need: 1, last: right, priority: p}
	if two {
		o.most, o.need = 0, 2
	}
	return r.push(o)
}

// isBang reports whether a name belongs to the variable behind it.
func isBang(name string) bool { return name == "!" || name == "!." || name == "!:" }

// checked refuses an application whose name may not have its arguments.
func checked(t api.Term) api.Term {
	if !suits(t.Name, t.Args) {
		panic(api.Fault{At: t.At, Code: api.ErrSyntax})
	}
	return t
}

func (r *reader) beginBracket(t api.Token) bool {
	switch t.Text {
	case "(":
		return r.push(open{kind: brackets, most: mostAlone})
	case "{":
		return r.push(open{kind: braces, most: mostAlone, at: t.At})
	}
	if r.skip("]") {
		return r.have(application("[]", t.At, nil))
	}
	return r.push(open{kind: elements, most: mostInRow, places: []int{r.peek().At}})
}

// standsFirst reports whether a token may be the first one of a term. Any name may: operators are atoms where nothing suits them.
func standsFirst(t api.Token) bool {
	switch t.Kind {
	case api.TokName, api.TokVar, api.TokInt, api.TokChar, api.TokText:
		return true
	}
	p := punct(t)
	return p == "(" || p == "[" || p == "{"
}

// beginsOperand reports whether a prefix operator in front of a token is one, and no atom.
func beginsOperand(t api.Token) bool {
	if infix, _, _ := infixOf(t); infix > 0 {
		prefix, _, _ := Prefix(t.Text)
		return prefix > 0
	}
	return standsFirst(t)
}

// infixOf is Infix of a token. The comma is an operator as punctuation alone, all others are as names alone.
func infixOf(t api.Token) (p, left, right int) {
	if punct(t) == "," || t.Kind == api.TokName && t.Text != "," {
		return Infix(t.Text)
	}
	return 0, 0, 0
}

// pushInfix opens the infix operator that is next, if the complete term can be its left side.
func (r *reader) pushInfix() bool {
	t := r.peek()
	p, left, right := infixOf(t)
	if p == 0 || p > r.top().most || left < r.priority {
		return false
	}
	r.at++
	r.push(open{kind: operator, most: right, name: t.Text, at: t.At, parts: []api.Term{r.term}, need: 2, last: right, priority: p})
	return true
}

// give makes the complete term a part of the innermost open one, and reports whether that is complete now.
func (r *reader) give() bool {
	o := r.top()
	o.parts = append(o.parts, r.term)
	t, complete := r.goOn(o)
	if complete {
		r.stack = r.stack[:len(r.stack)-1]
		r.term, r.priority = t, o.priority
	}
	return complete
}

// goOn reads what stands behind a part of an open term, and returns that term, if it is complete.
func (r *reader) goOn(o *open) (api.Term, bool) {
	switch o.kind {
	case operator:
		o.most = o.last
		return application(o.name, o.at, o.parts), len(o.parts) == o.need
	case arguments:
		return r.afterArgument(o)
	case brackets:
		r.expect(")")
	case braces:
		r.expect("}")
		return application("{}", o.at, o.parts), true
	case elements:
		return r.afterElement(o)
	case rest:
		r.expect("]")
		last := len(o.parts) - 1
		return list(o.parts[:last], o.places, o.parts[last]), true
	}
	return o.parts[0], true
}

// expect goes behind the next token, which must be this punctuation.
func (r *reader) expect(text string) {
	if !r.skip(text) {
		panic(refusal(r.peek()))
	}
}

func (r *reader) afterArgument(o *open) (api.Term, bool) {
	if r.skip(",") {
		return api.Term{}, false
	}
	r.expect(")")
	return checked(application(o.name, o.at, o.parts)), true
}

func (r *reader) afterElement(o *open) (api.Term, bool) {
	switch {
	case r.skip(","):
		o.places = append(o.places, r.peek().At)
		return api.Term{}, false
	case r.skip("|"):
		o.kind = rest
		return api.Term{}, false
	}
	end := application("[]", r.peek().At, nil)
	r.expect("]")
	return list(o.parts, o.places, end), true
}

// list returns the list of elements that begin at these places, with an end.
func list(l []api.Term, places []int, end api.Term) api.Term {
	for i := len(l) - 1; i >= 0; i-- {
		end = application("[|]", places[i], []api.Term{l[i], end})
	}
	return end
}
