package items

import (
	"strconv"
	"strings"
	"testing"

	"cinnabar/api"
	"cinnabar/pretty"
	"cinnabar/terms"
)

// Makers of terms and types.

func variab(s string) api.Term { return api.Term{Kind: api.TVar, Name: s} }
func num(n int64) api.Term     { return api.Term{Kind: api.TInt, Num: n} }
func str(s string) api.Term    { return api.Term{Kind: api.TText, Name: s} }
func yvar(s string) api.Type   { return api.Type{Kind: api.YVar, Name: s} }

func ycon(s string, args ...api.Type) api.Type {
	return api.Type{Kind: api.YCon, Name: s, Args: args}
}

func ypred(args ...api.Type) api.Type { return api.Type{Kind: api.YPred, Args: args} }

// parse returns the terms of a text that is right.
func parse(t *testing.T, text string) []api.Term {
	t.Helper()
	l, f := terms.Text(text)
	if f.Code != api.OK {
		t.Fatalf("%q: %v", text, f)
	}
	return l
}

// parseOne returns the one term of a text that is right, without its stop.
func parseOne(t *testing.T, text string) api.Term {
	t.Helper()
	return parse(t, text+" .")[0]
}

// unitOf returns the module of a text that is right.
func unitOf(t *testing.T, text string) Unit {
	t.Helper()
	u, f := Text(text)
	if f.Code != api.OK {
		t.Fatalf("%q: %v", text, f)
	}
	return u
}

// lines returns the lines of what stands in a module, without places: each part of it in one, what is public in front, marked by a +.
func lines(u Unit) string {
	m := u.Module
	var b strings.Builder
	for _, public := range []bool{true, false} {
		line := func(isPublic bool, words ...string) {
			if isPublic == public {
				b.WriteString(map[bool]string{true: "+"}[public] + strings.Join(words, " ") + "\n")
			}
		}
		for _, x := range m.Uses {
			line(x.Public, "use", x.Name)
		}
		for _, x := range m.Types {
			line(x.Public, "type", x.Name, "["+strings.Join(x.Params, " ")+"]", strconv.Itoa(x.Kind), ctorLine(x.Ctors), typeLine(x.Same))
		}
		for _, x := range m.Insts {
			line(x.Public, "inst", x.Name, termLine(x.Body))
		}
		for _, x := range m.Modes {
			line(x.Public, "mode", x.Name, termLine(x.From), termLine(x.To))
		}
		for _, x := range m.Decls {
			line(x.Public, declLine(x))
		}
		for _, x := range m.Classes {
			line(x.Public, "class", x.Name, "["+strings.Join(x.Params, " ")+"]", needLine(x.Supers))
			for _, d := range x.Methods {
				line(x.Public, " method", declLine(d), strconv.FormatBool(d.Public))
			}
		}
		for _, x := range m.Instances {
			line(x.Public, "instance", needLine([]api.Need{{Class: x.Class, Types: x.Types}}), needLine(x.Needs), strings.Join(x.Impls, "; "))
		}
		for _, k := range u.Kids {
			if k.Module.Public == public {
				b.WriteString(whole(k))
			}
		}
	}
	for _, x := range m.Laws {
		b.WriteString("law " + strconv.Itoa(x.Kind) + " " + x.Name + "\n")
	}
	for _, x := range u.Clauses {
		b.WriteString("clause " + termLine(x) + "\n")
	}
	return b.String()
}

// whole returns the lines of a module between its name and an end.
func whole(u Unit) string {
	m := u.Module
	return "module " + m.Name + map[bool]string{true: " +"}[m.Public] + strings.Repeat(" more", len(m.Clauses)+len(m.Kids)) + "\n" + lines(u) + "end\n"
}

func typeLine(y api.Type) string {
	var b strings.Builder
	b.WriteString(map[int]string{api.YVar: "", api.YCon: "", api.YPred: "closure"}[y.Kind] + y.Name)
	if y.Kind == api.YDict || y.Kind == api.YPred && y.Name != "" {
		b.WriteString("?" + strconv.Itoa(y.Kind))
	}
	for i, x := range y.Args {
		b.WriteString([]string{"(", ", "}[min(i, 1)] + typeLine(x))
	}
	if len(y.Args) > 0 {
		b.WriteString(")")
	}
	return b.String()
}

func ctorLine(l []api.Ctor) string {
	var ctors []string
	for _, c := range l {
		s := c.Name + "/" + strconv.Itoa(len(c.Fields))
		for i, y := range c.Args {
			s += " "
			if i < len(c.Fields) {
				s += c.Fields[i] + ":"
			}
			s += typeLine(y)
		}
		ctors = append(ctors, s)
	}
	return strings.Join(ctors, " | ")
}

func needLine(l []api.Need) string {
	var needs []string
	for _, n := range l {
		needs = append(needs, typeLine(ycon(n.Class, n.Types...)))
	}
	return "{" + strings.Join(needs, ", ") + "}"
}

func declLine(d api.Decl) string {
	s := map[bool]string{true: "func ", false: "pred "}[d.Func] + d.Name
	for _, y := range d.Types {
		s += " " + typeLine(y)
	}
	s += " " + needLine(d.Needs)
	for _, m := range d.Modes {
		s += " ("
		for _, t := range m.Args {
			s += termLine(t) + " "
		}
		s += DetName(m.Det) + ")"
	}
	return s
}

// termLine writes a term, as far as it is right.
func termLine(t api.Term) string {
	s, e := pretty.Term(t, 999)
	if e != api.OK {
		return "?" + e.Error() + t.Name
	}
	return s
}

// identical reports whether two terms are equal, places included.
func identical(a, b api.Term) bool {
	if a.Kind != b.Kind || a.Name != b.Name || a.Num != b.Num || a.At != b.At || len(a.Args) != len(b.Args) {
		return false
	}
	for i, x := range a.Args {
		if !identical(x, b.Args[i]) {
			return false
		}
	}
	return true
}
