package steps

import (
	"slices"
	"strconv"
	"strings"
	"testing"

	"cinnabar/api"
	"cinnabar/items"
	"cinnabar/terms"
)

// Makers of terms.

func variab(s string) api.Term { return api.Term{Kind: api.TVar, Name: s} }
func num(n int64) api.Term     { return api.Term{Kind: api.TInt, Num: n} }
func str(s string) api.Term    { return api.Term{Kind: api.TText, Name: s} }
func lamb(n int64) api.Term    { return api.Term{Kind: api.TLam, Num: n} }

// parse returns the one term of a text that is right, without its stop.
func parse(t *testing.T, text string) api.Term {
	t.Helper()
	l, f := terms.Text(text + " .")
	if f.Code != api.OK || len(l) != 1 {
		t.Fatalf("%q: %v", text, f)
	}
	return l[0]
}

// clauseOf returns the clause of a text that is right.
func clauseOf(t *testing.T, text string) api.Clause {
	t.Helper()
	c, f := Clause(parse(t, text))
	if f.Code != api.OK {
		t.Fatalf("%q: %v", text, f)
	}
	return c
}

// list writes what stands in brackets with commas.
func list[X any](open string, l []X, line func(X) string, end string) string {
	return open + strings.Join(mapped(l, line), ", ") + end
}

// termLine writes a term: each application with its name in front.
func termLine(t api.Term) string {
	switch t.Kind {
	case api.TVar:
		return t.Name
	case api.TInt:
		return strconv.FormatInt(t.Num, 10)
	case api.TChar:
		return "0'" + string(rune(t.Num))
	case api.TText:
		return strconv.Quote(t.Name)
	case api.TLam:
		return "#" + strconv.FormatInt(t.Num, 10)
	}
	if len(t.Args) == 0 {
		return t.Name
	}
	return list(t.Name+"(", t.Args, termLine, ")")
}

// stepLine writes a goal: its kind, or the name of the call, in front of its parts.
func stepLine(s api.Step) string {
	kinds := map[int]string{api.SAnd: "And(", api.SOr: "Or(", api.SPar: "Par(", api.SIf: "If(", api.SNot: "Not(", api.SSome: "Some([" + strings.Join(s.Vars, " ") + "] ", api.SSame: "Same(", api.SHigher: "Higher("}
	switch s.Kind {
	case api.SCall:
		return termLine(api.Term{Kind: api.TApp, Name: s.Name, Args: s.Args})
	case api.SSame, api.SHigher:
		return list(kinds[s.Kind], s.Args, termLine, ")")
	}
	return list(kinds[s.Kind]+s.Name, s.Kids, stepLine, ")")
}

// lamLines writes lambda goals, each behind a bar.
func lamLines(l []api.Lam) string {
	s := ""
	for i, x := range l {
		var args []string
		for k := range max(len(x.Args), len(x.Modes)) {
			args = append(args, termLine(x.Args[k])+"::"+termLine(x.Modes[k]))
		}
		s += " | #" + strconv.Itoa(i) + "(" + strings.Join(args, ", ") + ") " + items.DetName(x.Det) + " :- " + stepLine(x.Body)
	}
	return s
}

// clauseLine writes a clause, of a function with = and the result behind the other arguments.
func clauseLine(c api.Clause) string {
	head, result := c.Head, ""
	if c.Func {
		last := len(head) - 1
		head, result = head[:last], " = "+termLine(head[last])
	}
	return termLine(api.Term{Kind: api.TApp, Name: c.Name, Args: head}) + result + " :- " + stepLine(c.Body) + lamLines(c.Lams)
}

// moduleLines writes the clauses of a module, and the modules in it.
func moduleLines(m api.Module) string {
	s := m.Name + map[bool]string{true: " +"}[m.Public] + " {\n"
	for _, c := range m.Clauses {
		s += clauseLine(c) + "\n"
	}
	for _, public := range []bool{true, false} {
		for _, k := range m.Kids {
			if k.Public == public {
				s += moduleLines(k)
			}
		}
	}
	return s + "}\n"
}

// identical reports whether two terms are equal, places included.
func identical(a, b api.Term) bool {
	return a.Kind == b.Kind && a.Name == b.Name && a.Num == b.Num && a.At == b.At && slices.EqualFunc(a.Args, b.Args, identical)
}

func identicalSteps(a, b api.Step) bool {
	return a.Kind == b.Kind && a.Name == b.Name && a.At == b.At && slices.Equal(a.Vars, b.Vars) && slices.EqualFunc(a.Args, b.Args, identical) && slices.EqualFunc(a.Kids, b.Kids, identicalSteps)
}

func identicalLams(a, b api.Lam) bool {
	return a.Det == b.Det && a.At == b.At && slices.EqualFunc(a.Args, b.Args, identical) && slices.EqualFunc(a.Modes, b.Modes, identical) && identicalSteps(a.Body, b.Body)
}

func identicalClauses(a, b api.Clause) bool {
	return a.Name == b.Name && a.Func == b.Func && a.At == b.At && slices.EqualFunc(a.Head, b.Head, identical) && identicalSteps(a.Body, b.Body) && slices.EqualFunc(a.Lams, b.Lams, identicalLams)
}

// A row is a text, and the line of what is made of it.
type row struct{ text, want string }

// wantClauses checks what the clauses of texts are.
func wantClauses(t *testing.T, rows ...row) {
	t.Helper()
	for _, x := range rows {
		c, f := Clause(parse(t, x.text))
		if f != (api.Fault{}) || clauseLine(c) != x.want {
			t.Errorf("%s\n got %s %v\nwant %s", x.text, clauseLine(c), f, x.want)
		}
	}
}

// wantGoals checks what the goals of texts are, alone and in a clause.
func wantGoals(t *testing.T, rows ...row) {
	t.Helper()
	for _, x := range rows {
		g := parse(t, x.text)
		s, lams, f := Goal(g)
		if f != (api.Fault{}) || stepLine(s)+lamLines(lams) != x.want {
			t.Errorf("%s\n got %s %v\nwant %s", x.text, stepLine(s)+lamLines(lams), f, x.want)
		}
		c, f := Clause(app(":-", app("h"), g))
		if f != (api.Fault{}) || clauseLine(c) != "h :- "+x.want {
			t.Errorf("%s\n got %s %v\nwant %s", x.text, clauseLine(c), f, x.want)
		}
	}
}
