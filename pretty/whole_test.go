package pretty

import (
	"slices"
	"strings"
	"testing"

	"cinnabar/api"
	"cinnabar/terms"
	"cinnabar/tokens"
)

// leaves returns terms without arguments that are written in different ways.
func leaves() []api.Term {
	return []api.Term{
		app("a"), app("-"), app("="), app("not"), app("some"), app(","), app("#"), app("!"), app("!:"), app("[]"), app("B"),
		variab("X"), num(1), num(-1), char('+'), str("="),
	}
}

// around yields the applications that have a term in them, beside these others.
func around(x api.Term, others []api.Term, yield func(api.Term)) {
	for _, name := range []string{"f", "-", "+", "=", "not", ":-", "if", "some", ",", "mod", "!", "!:", "{}", "#"} {
		yield(app(name, x))
	}
	if x.Kind == api.TVar {
		yield(app("!.", x))
	}
	for _, name := range []string{"f", "-", "++", "*", "=", "^", ",", ";", ":-", "-->", "then", "some", "[|]", "call"} {
		for _, y := range others {
			yield(app(name, x, y))
			yield(app(name, y, x))
		}
	}
	for _, name := range []string{"-", "=", "not", ",", "call", "some"} {
		yield(app(name, x, x, x))
	}
}

// smallTerms yields terms that are nested at most three deep, in which all kinds of terms meet: of those nested so deep each thirteenth one.
func smallTerms(yield func(api.Term)) {
	few := []api.Term{app("a"), app("-"), variab("X"), num(1), num(-1)}
	var second []api.Term
	for _, x := range leaves() {
		yield(x)
		around(x, leaves(), func(t api.Term) { second = append(second, t) })
	}
	count := 0
	for _, x := range second {
		yield(x)
		around(x, few, func(t api.Term) {
			if count++; count%13 == 0 {
				yield(t)
			}
		})
	}
}

// A maker makes terms by numbers that follow one another by a fixed rule.
type maker struct{ state uint64 }

func (m *maker) below(n int) int {
	m.state = m.state*6364136223846793005 + 1442695040888963407
	return int(m.state >> 33 % uint64(n))
}

// make returns a term that is nested at most this deep.
func (m *maker) make(depth int) api.Term {
	all := leaves()
	if depth <= 1 || m.below(5) == 0 {
		return all[m.below(len(all))]
	}
	names := append(strings.Fields(operatorNames), "f", "call", "[|]", "[|]", "{}", "!", "!:", "#")
	name := names[m.below(len(names))]
	n := 1 + m.below(2)
	switch {
	case name == "[|]":
		n = 2
	case name == "{}":
		n = 1
	case m.below(8) == 0:
		n = 3
	}
	var args []api.Term
	for range n {
		args = append(args, m.make(depth-1))
	}
	return app(name, args...)
}

// largeTerms yields terms that are nested deeper.
func largeTerms(n int, yield func(api.Term)) {
	m := maker{state: 1}
	for range n {
		yield(m.make(4 + m.below(6)))
	}
}

// P3.2: Term(t, 1200) is read as t.
func TestTermIsRead(t *testing.T) {
	check := func(x api.Term) {
		s, e := Term(x, 1200)
		again, f := readOne(s)
		if e != api.OK || f.Code != api.OK || !terms.Same(again, x) {
			t.Errorf("%s: %q %v %s %v", show(x), s, e, show(again), f)
		}
	}
	smallTerms(check)
	largeTerms(20000, check)
}

// P3.2: where less is permitted a term is the same, or stands in brackets as a whole; and it can stand where that is permitted.
func TestPlacesAreKept(t *testing.T) {
	check := func(x api.Term) {
		whole, _ := Term(x, 1200)
		less := false
		for _, m := range []int{1199, 1150, 1000, 999, 900, 700, 500, 499, 400, 99, 1, 0} {
			s, e := Term(x, m)
			if e != api.OK || s != whole && s != "("+whole+")" || less && s == whole && whole[0] != '(' {
				t.Errorf("%s, %d: %q %v", show(x), m, s, e)
			}
			less = s != whole
			for name, most := range map[string]int{":-": 1199, "then": 1149, ",": 1000, "=": 699, "++": 500, "-": 499, "*": 399, "^": 99} {
				if m != most || isBareOperator(x) {
					continue
				}
				again, f := readOne("a " + name + " " + s)
				if f.Code != api.OK || !terms.Same(again, app(name, app("a"), x)) {
					t.Errorf("a %s %s: %s %v", name, s, show(again), f)
				}
			}
		}
	}
	largeTerms(5000, check)
	for _, x := range leaves() {
		around(x, leaves(), check)
	}
}

// pairs yields the places of brackets that belong together.
func pairs(l []api.Token, yield func(first, last int)) {
	var open []int
	for i, t := range l {
		if t.Kind != api.TokPunct {
			continue
		}
		switch t.Text {
		case "(", "((":
			open = append(open, i)
		case ")":
			last := len(open) - 1
			yield(open[last], i)
			open = open[:last]
		}
	}
}

// P3.2: no brackets can be left out, but those of an atom.
func TestBracketsAreNeeded(t *testing.T) {
	check := func(x api.Term) {
		s, _ := Term(x, 1200)
		l, f := tokens.Tokens(s)
		if f.Code != api.OK {
			t.Errorf("%q: %v", s, f)
			return
		}
		pairs(l, func(first, last int) {
			i, j := l[first].At, l[last].At
			less := s[:i] + s[i+1:j] + s[j+1:]
			again, f := readOne(less)
			if f.Code == api.OK && terms.Same(again, x) && last > first+2 {
				t.Errorf("%s: %q is %q", show(x), s, less)
			}
		})
	}
	smallTerms(check)
	largeTerms(10000, check)
}

// P3.2: the terms of what Items returns are the terms, and their texts are canonical.
func TestItemsAreRead(t *testing.T) {
	var list []api.Term
	check := func(x api.Term) {
		list = append(list, x, app(":-", x, app("b")), app("-->", app("b"), x))
		if len(list) < 60 {
			return
		}
		s, e := Items(list)
		again, f := terms.Text(s)
		if e != api.OK || f.Code != api.OK || !slices.EqualFunc(again, list, terms.Same) {
			t.Errorf("%q: %v %v", s, e, f)
		}
		if c, f := Canonical(s); f.Code != api.OK || c != s {
			t.Errorf("%q: %q %v", s, c, f)
		}
		list = list[:0]
	}
	smallTerms(check)
	largeTerms(5000, check)
}

// P3.2: blanks, comments, apostrophes and brackets that are not needed do not change a canonical text.
func TestCanonicalIsOne(t *testing.T) {
	for _, l := range [][]string{
		{"a :-\n    b,\n    c.\n", "a:-b,c.", "(a):- (b,c).", ":-(a,(b,c)).", "':-'(a,','(b,c)) .", "a % x\n:- b /* y */ , c.", "((a :- b, c))."},
		{"x - y - z.\n", "x-y-z.", "(x-y)-z.", "-(-(x,y),z).", "'-'('x' - y, z).", "x '-' y '-' (z)."},
		{"[a, b | C].\n", "[a,b|C].", "[a|[b|C]].", "'[|]'(a,[b|C]).", "[(a),(b)|(C)]."},
		{"f(-, !X, -1).\n", "f(-,!X,-1).", "f((-), !(X), - 1).", "'f'('-',! X,- /* 1 */ 1)."},
	} {
		for _, x := range l {
			if s, f := Canonical(x); f.Code != api.OK || s != l[0] {
				t.Errorf("%q: %q %v", x, s, f)
			}
		}
	}
}

// P1, P2: no argument is changed, and equal calls have equal results.
func TestArgumentsAreKept(t *testing.T) {
	largeTerms(500, func(x api.Term) {
		before := show(x)
		l := []api.Term{x, x}
		s, e := Items(l)
		again, g := Items(l)
		a, _ := Term(x, 999)
		b, _ := Term(x, 999)
		if s != again || e != g || a != b || show(x) != before {
			t.Errorf("%s: %q %q %q %q", before, s, again, a, b)
		}
	})
}

// P1: terms that are nested as deep as they may be are written without delay, whatever they begin with.
func TestDeepTerms(t *testing.T) {
	for _, names := range [][]string{{"not"}, {"-"}, {"-", "f"}, {"not", "=", "="}, {"some", "="}, {"=", "not"}, {"+", "-", "not"}} {
		x := app("=", app("a"))
		for i := range api.MaxNest - 2 {
			name := names[i%len(names)]
			switch _, _, two := terms.Prefix(name); {
			case two, i%2 == 1:
				x = app(name, x, app("a"))
			default:
				x = app(name, x)
			}
		}
		s, e := Term(x, 1200)
		again, f := readOne(s)
		if e != api.OK || f.Code != api.OK || !terms.Same(again, x) {
			t.Errorf("%v: %q %v %v", names, s, e, f)
		}
	}
}
