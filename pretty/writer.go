package pretty

import (
	"strconv"

	"cinnabar/api"
	"cinnabar/terms"
	"cinnabar/tokens"
)

// A writer makes a text. It leaves what it does by a panic with ErrLimit where the text becomes too long; so no term is too deep for its calls, each of which in a longer chain has written something.
type writer struct {
	text  []byte
	signs bool // a name of signs has just been written
}

// written returns what a function writes, or why it cannot be written.
func written(write func(*writer)) (text string, e api.Errno) {
	defer func() {
		if r, ok := recover().(api.Errno); ok {
			text, e = "", r
		}
	}()
	var w writer
	write(&w)
	return string(w.text), api.OK
}

// put adds bytes to the text.
func (w *writer) put(s string) {
	if len(w.text)+len(s) > api.MaxSource {
		panic(api.ErrLimit)
	}
	w.text = append(w.text, s...)
	w.signs = false
}

// name adds a name.
func (w *writer) name(s string) {
	if s == "[]" {
		w.put(s)
		return
	}
	w.put(tokens.Name(s))
	// Of a name of signs a point directly behind it is a part.
	longer := s + "."
	w.signs = tokens.Name(longer) == longer
}

// token adds a token that is written as in any text.
func (w *writer) token(kind int, text string) {
	s, e := tokens.Text([]api.Token{{Kind: kind, Text: text}})
	if e != api.OK {
		panic(e)
	}
	w.put(s)
}

// alone writes a term that is an argument, an element or the whole.
func (w *writer) alone(t api.Term, m int) {
	if m >= mostInRow && isBareOperator(t) {
		w.name(t.Name)
		return
	}
	w.side(t, m)
}

// side writes a term that is a side of an operator, where m is permitted.
func (w *writer) side(t api.Term, m int) {
	switch t.Kind {
	case api.TVar:
		w.put(t.Name)
	case api.TInt:
		w.put(strconv.FormatInt(t.Num, 10))
	case api.TChar:
		w.token(api.TokChar, string([]byte{byte(t.Num)}))
	case api.TText:
		w.token(api.TokText, t.Name)
	default:
		w.enclosed(t, formOf(t), m)
	}
}

// enclosed writes an application, in brackets if it needs more than m.
func (w *writer) enclosed(t api.Term, f form, m int) {
	if f.priority <= m {
		w.application(t, f)
		return
	}
	w.put("(")
	w.application(t, f)
	w.put(")")
}

// application writes an application without brackets around it.
func (w *writer) application(t api.Term, f form) {
	switch f.kind {
	case list:
		w.list(t)
	case braces:
		w.put("{")
		w.alone(t.Args[0], mostAlone)
		w.put("}")
	case bang:
		w.put(t.Name + t.Args[0].Name)
	case closure:
		w.put(t.Args[0].Name)
		w.arguments(t.Args[1:])
	case infix:
		w.infix(t, f)
	case prefix:
		w.put(t.Name + " ")
		w.side(t.Args[0], f.right)
	case prefixTwo:
		w.put(t.Name + " ")
		w.first(t.Args[0])
		w.put(" ")
		w.side(t.Args[1], f.right)
	default:
		w.name(t.Name)
		w.arguments(t.Args)
	}
}

func (w *writer) list(t api.Term) {
	w.put("[")
	w.alone(t.Args[0], mostInRow)
	rest := t.Args[1]
	for rest.Kind == api.TApp && rest.Name == "[|]" {
		w.put(", ")
		w.alone(rest.Args[0], mostInRow)
		rest = rest.Args[1]
	}
	if rest.Kind != api.TApp || rest.Name != "[]" {
		w.put(" | ")
		w.alone(rest, mostInRow)
	}
	w.put("]")
}

// arguments writes arguments in brackets, if there are any.
func (w *writer) arguments(l []api.Term) {
	if len(l) == 0 {
		return
	}
	w.put("(")
	for i, t := range l {
		if i > 0 {
			w.put(", ")
		}
		w.alone(t, mostInRow)
	}
	w.put(")")
}

func (w *writer) infix(t api.Term, f form) {
	w.side(t.Args[0], f.left)
	if t.Name != "," {
		w.put(" ")
	}
	w.put(t.Name + " ")
	w.side(t.Args[1], f.right)
}

// first writes the first term of a prefix of two. A mark there would be read with a variable behind it.
func (w *writer) first(t api.Term) {
	if t.Kind == api.TApp && len(t.Args) == 0 && (t.Name == "!" || t.Name == "!:") {
		w.put("(")
		w.name(t.Name)
		w.put(")")
		return
	}
	w.side(t, 0)
}

// item writes the lines of a term with a stop.
func (w *writer) item(t api.Term) {
	if isClause(t) {
		_, left, _ := terms.Infix(t.Name)
		w.side(t.Args[0], left)
		w.put(" " + t.Name)
		w.goals(t.Args[1])
	} else {
		w.alone(t, mostAlone)
	}
	if w.signs {
		w.put(" ")
	}
	w.put(".\n")
}

func isClause(t api.Term) bool {
	return t.Kind == api.TApp && (t.Name == ":-" || t.Name == "-->") && len(t.Args) == 2
}

// goals writes the goals of a clause, each in a line of its own.
func (w *writer) goals(t api.Term) {
	for t.Kind == api.TApp && t.Name == "," && len(t.Args) == 2 {
		w.goal(t.Args[0])
		w.put(",")
		t = t.Args[1]
	}
	w.goal(t)
}

func (w *writer) goal(t api.Term) {
	w.put("\n    ")
	w.side(t, mostInRow)
}
