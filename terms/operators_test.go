package terms

import (
	"strings"
	"testing"

	"cinnabar/api"
)

// An operator of the table, with its column.
type row struct {
	name string
	p    int
	form string
}

// rows returns the operators of one form, in the columns' notation.
func rows(form string) []row {
	var list []row
	for _, x := range []struct {
		p           int
		form, names string
	}{
		{1200, "xfx", ":- -->"}, {1179, "xfx", "--->"}, {1175, "xfx", "== where"}, {1170, "xfy", "else"},
		{1150, "xfx", "then"}, {1100, "xfy", ";"}, {1050, "xfy", "->"}, {1025, "xfy", "&"}, {1000, "xfy", ","},
		{920, "xfy", "<="}, {701, "xfx", "is"}, {700, "xfx", "= \\= < > =< >="}, {680, "xfx", "::"}, {650, "xfx", ":="},
		{500, "xfy", "++"}, {500, "yfx", "+ -"}, {400, "yfx", "* / // mod >>"}, {99, "xfy", "^"},
		{1200, "fx", ":-"}, {1199, "fx", "module end_module import_module type inst mode typeclass instance promise"},
		{1160, "fx", "if"}, {950, "fxy", "some"}, {900, "fy", "\\+ not"}, {800, "fx", "pred func"}, {500, "fx", "- +"},
	} {
		if x.form != form {
			continue
		}
		for _, name := range strings.Fields(x.names) {
			list = append(list, row{name, x.p, form})
		}
	}
	return list
}

func infixRows() []row {
	return append(append(rows("xfx"), rows("xfy")...), rows("yfx")...)
}

func prefixRows() []row {
	return append(append(rows("fx"), rows("fy")...), rows("fxy")...)
}

// side returns what an x or a y permits.
func side(c byte, p int) int {
	if c == 'y' {
		return p
	}
	return p - 1
}

// P2.2: the priorities of all operators, and those of their sides.
func TestTable(t *testing.T) {
	infix, prefix := map[string]bool{}, map[string]bool{}
	for _, x := range infixRows() {
		infix[x.name] = true
		p, left, right := Infix(x.name)
		if p != x.p || left != side(x.form[0], p) || right != side(x.form[2], p) {
			t.Error(x, p, left, right)
		}
	}
	for _, x := range prefixRows() {
		prefix[x.name] = true
		p, right, two := Prefix(x.name)
		if p != x.p || right != side(x.form[len(x.form)-1], p) || two != (x.form == "fxy") {
			t.Error(x, p, right, two)
		}
	}
	if len(infix) != 30 || len(prefix) != 18 {
		t.Error(len(infix), len(prefix))
	}
	other := []string{"", "a", "|", "!", "!.", "!:", "{}", "[]", "[|]", ".", "rem", "div", "\\", "?", "$", "xor", "all", "end", "interface", "Else", "(", " -"}
	for _, x := range append(append(infixRows(), prefixRows()...), rowsOf(other)...) {
		p, left, right := Infix(x.name)
		if !infix[x.name] && (p != 0 || left != 0 || right != 0) {
			t.Error(x, p, left, right)
		}
		p, right, two := Prefix(x.name)
		if !prefix[x.name] && (p != 0 || right != 0 || two) {
			t.Error(x, p, right, two)
		}
	}
}

func rowsOf(names []string) []row {
	var list []row
	for _, name := range names {
		list = append(list, row{name: name})
	}
	return list
}

// P2.1: of any two infix operators the one takes the other into its side that permits it, to the right first.
func TestInfixPairs(t *testing.T) {
	for _, x := range infixRows() {
		for _, y := range infixRows() {
			text := "a " + x.name + " b " + y.name + " c"
			got, f := oneOf(text)
			switch {
			case y.p <= side(x.form[2], x.p):
				if want := x.name + "(a, " + y.name + "(b, c))"; f.Code != api.OK || show(got) != want {
					t.Errorf("%s: %s %v", text, show(got), f)
				}
			case x.p <= side(y.form[0], y.p):
				if want := y.name + "(" + x.name + "(a, b), c)"; f.Code != api.OK || show(got) != want {
					t.Errorf("%s: %s %v", text, show(got), f)
				}
			default:
				if want := (api.Fault{At: 5 + len(x.name), Code: api.ErrSyntax}); f != want {
					t.Errorf("%s: %s %v", text, show(got), f)
				}
			}
		}
	}
}

// P2.1: a prefix operator takes what its side permits.
func TestPrefixAndInfix(t *testing.T) {
	for _, x := range prefixRows() {
		for _, y := range infixRows() {
			first := ""
			if x.form == "fxy" {
				first = "x "
			}
			text := x.name + " " + first + "a " + y.name + " b"
			args := strings.ReplaceAll(first, " ", ", ")
			got, f := oneOf(text)
			switch {
			case y.p <= side(x.form[len(x.form)-1], x.p):
				if want := x.name + "(" + args + y.name + "(a, b))"; f.Code != api.OK || show(got) != want {
					t.Errorf("%s: %s %v", text, show(got), f)
				}
			case x.p <= side(y.form[0], y.p):
				if want := y.name + "(" + x.name + "(" + args + "a), b)"; f.Code != api.OK || show(got) != want {
					t.Errorf("%s: %s %v", text, show(got), f)
				}
			default:
				if want := (api.Fault{At: len(x.name) + len(first) + 3, Code: api.ErrSyntax}); f != want {
					t.Errorf("%s: %s %v", text, show(got), f)
				}
			}
		}
	}
}

// P2.1: behind an infix or a prefix operator, a prefix operator that may not stand there is an atom, which nothing can follow.
func TestPrefixInSides(t *testing.T) {
	for _, y := range rows("fx") {
		for _, x := range append(infixRows(), prefixRows()...) {
			if x.form == "fxy" {
				continue
			}
			before := "a " + x.name
			start := "a, "
			if x.form == "fx" || x.form == "fy" {
				before, start = x.name, ""
			}
			text := before + " " + y.name + " b"
			got, f := oneOf(text)
			if y.p <= side(x.form[len(x.form)-1], x.p) {
				if want := x.name + "(" + start + y.name + "(b))"; f.Code != api.OK || show(got) != want {
					t.Errorf("%s: %s %v", text, show(got), f)
				}
			} else if want := (api.Fault{At: len(text) - 1, Code: api.ErrSyntax}); f != want && !isInfixName(y.name) {
				t.Errorf("%s: %s %v", text, show(got), f)
			}
		}
	}
}

func isInfixName(name string) bool {
	p, _, _ := Infix(name)
	return p > 0
}
