package steps

import (
	"strings"

	"cinnabar/api"
	"cinnabar/items"
	"cinnabar/terms"
)

// Makers of terms without places.

func app(name string, args ...api.Term) api.Term {
	return api.Term{Kind: api.TApp, Name: name, Args: args}
}

// bare returns a term without its places.
func bare(t api.Term) api.Term { return copied(t, cleared) }

// noTerm stands where there is no term of what a clause has: it is right, but Clause makes nothing else of it.
func noTerm() api.Term { return api.Term{Kind: api.TInt} }

// joined puts an infix operator between terms, at least one, nested to the right.
func joined(operator string, l []api.Term) api.Term {
	last := len(l) - 1
	t := l[last]
	for i := last - 1; i >= 0; i-- {
		t = app(operator, l[i], t)
	}
	return t
}

// A writer makes the term of a clause.
type writer struct {
	lams    []api.Lam
	written []bool // of each lambda goal
}

// termOf returns the term of a clause, also of one that is made of no term, as far as there is one.
func termOf(c api.Clause) api.Term {
	w := writer{c.Lams, make([]bool, len(c.Lams))}
	head := w.head(c)
	if c.Body.Kind == api.SAnd && len(c.Body.Kids) == 0 {
		return head
	}
	return app(":-", head, w.goal(c.Body))
}

// head returns the term of a head.
func (w *writer) head(c api.Clause) api.Term {
	args := w.terms(c.Head)
	last := len(args) - 1
	if !c.Func {
		return app(c.Name, args...)
	}
	if last < 0 {
		return noTerm()
	}
	return app("=", app(c.Name, args[:last:last]...), args[last])
}

// goal returns the term of a goal.
func (w *writer) goal(s api.Step) api.Term {
	kinds := [...]func(*writer, api.Step) api.Term{
		api.SAnd: (*writer).and, api.SOr: (*writer).or, api.SPar: (*writer).par, api.SIf: (*writer).choice,
		api.SNot: (*writer).not, api.SSome: (*writer).some, api.SSame: (*writer).same, api.SCall: (*writer).call, api.SHigher: (*writer).higher,
	}
	if s.Kind < 0 || s.Kind >= len(kinds) {
		return noTerm()
	}
	return kinds[s.Kind](w, s)
}

func (w *writer) goals(l []api.Step) []api.Term { return mapped(l, w.goal) }

// row returns goals with an operator between them; without goals what is written then.
func (w *writer) row(operator string, s api.Step, none api.Term) api.Term {
	if len(s.Kids) == 0 {
		return none
	}
	return joined(operator, w.goals(s.Kids))
}

func (w *writer) and(s api.Step) api.Term { return w.row(",", s, app("true")) }
func (w *writer) or(s api.Step) api.Term  { return w.row(";", s, app("fail")) }
func (w *writer) par(s api.Step) api.Term { return w.row("&", s, noTerm()) }

// choice returns the term of a condition. One with another number of parts is none that Clause reads.
func (w *writer) choice(s api.Step) api.Term {
	l := w.goals(s.Kids)
	if len(l) != 3 {
		return app("if", l...)
	}
	return app("else", app("if", app("then", l[0], l[1])), l[2])
}

func (w *writer) not(s api.Step) api.Term { return app("\\+", w.goals(s.Kids)...) }

func (w *writer) some(s api.Step) api.Term {
	list := mapped(s.Vars, func(name string) api.Term { return api.Term{Kind: api.TVar, Name: name} })
	l := []api.Term{joined("[|]", append(list, app("[]")))}
	return app("some", append(l, w.goals(s.Kids)...)...)
}

func (w *writer) same(s api.Step) api.Term   { return app("=", w.terms(s.Args)...) }
func (w *writer) call(s api.Step) api.Term   { return app(s.Name, w.terms(s.Args)...) }
func (w *writer) higher(s api.Step) api.Term { return app("call", w.terms(s.Args)...) }

func (w *writer) terms(l []api.Term) []api.Term { return mapped(l, w.term) }

// term returns the term that Clause reads as a term. A list may be longer than calls can be nested, but only in its last arguments.
func (w *writer) term(t api.Term) api.Term {
	var whole api.Term
	to := &whole
	for len(t.Args) > 0 && t.Kind != api.TLam && fieldTaken(t) == "" && fieldReplaced(t) == "" {
		*to = t
		to.At, to.Args = 0, make([]api.Term, len(t.Args))
		last := len(t.Args) - 1
		for i, x := range t.Args[:last] {
			to.Args[i] = w.term(x)
		}
		to, t = &to.Args[last], t.Args[last]
	}
	*to = w.other(t)
	return whole
}

// other returns the term of what stands for another one, and of what has no arguments.
func (w *writer) other(t api.Term) api.Term {
	switch {
	case t.Kind == api.TLam:
		return w.lambda(t)
	case fieldTaken(t) != "":
		return w.get(t)
	case fieldReplaced(t) != "":
		return w.set(t)
	}
	t.At, t.Args = 0, nil
	return t
}

// fieldTaken returns the name of the field that a term takes; no text, if it takes none.
func fieldTaken(t api.Term) string {
	name, ok := strings.CutPrefix(t.Name, "^")
	if t.Kind == api.TApp && len(t.Args) == 1 && ok && isWord(name) {
		return name
	}
	return ""
}

// fieldReplaced returns the name of the field that a term replaces; no text, if it replaces none.
func fieldReplaced(t api.Term) string {
	name, ok := strings.CutPrefix(t.Name, "^")
	name, set := strings.CutSuffix(name, ":=")
	if t.Kind == api.TApp && len(t.Args) == 2 && ok && set && isWord(name) {
		return name
	}
	return ""
}

// get returns a term with its fields behind it: a path of several, as it is nested less than one field behind the other.
func (w *writer) get(t api.Term) api.Term {
	path := app(fieldTaken(t))
	for t = t.Args[0]; fieldTaken(t) != ""; t = t.Args[0] {
		path = app("^", app(fieldTaken(t)), path)
	}
	return app("^", w.term(t), path)
}

// set returns the term that replaces a field. If the value replaces something in this field itself, that is a path which begins with the field.
func (w *writer) set(t api.Term) api.Term {
	x := w.term(t.Args[0])
	v := w.term(t.Args[1])
	field := app(fieldReplaced(t))
	if isSet(v) {
		whole, path := v.Args[0].Args[0], v.Args[0].Args[1]
		if terms.Same(whole, withField(x, field)) {
			return app(":=", app("^", x, app("^", field, path)), v.Args[1])
		}
	}
	return app(":=", app("^", x, field), v)
}

// withField returns the term that get makes of a field of what this term is made of.
func withField(t, field api.Term) api.Term {
	if !isGet(t) {
		return app("^", t, field)
	}
	var names []api.Term
	for f := range sides(t.Args[1], "^") {
		names = append(names, f)
	}
	return app("^", t.Args[0], joined("^", append(names, field)))
}

// lambda returns the term of a lambda goal, unless it is written already: each one stands at one place.
func (w *writer) lambda(t api.Term) api.Term {
	if t.Num < 0 || t.Num >= int64(len(w.lams)) || w.written[t.Num] {
		return noTerm()
	}
	w.written[t.Num] = true
	lam := w.lams[t.Num]
	var args []api.Term
	for i := range min(len(lam.Args), len(lam.Modes)) {
		args = append(args, app("::", w.term(lam.Args[i]), bare(lam.Modes[i])))
	}
	return app(":-", app("is", app("pred", args...), app(items.DetName(lam.Det))), w.goal(lam.Body))
}
