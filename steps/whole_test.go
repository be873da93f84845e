package steps

import (
	"maps"
	"slices"
	"strconv"
	"strings"
	"testing"

	"cinnabar/api"
	"cinnabar/items"
	"cinnabar/pretty"
	"cinnabar/terms"
)

// A maker makes terms of clauses by numbers that follow one another by a fixed rule.
type maker struct {
	random  uint64
	states  bool // with state variables
	fields  bool
	lambdas int // how deep they may stand in one another
}

func (m *maker) below(n int) int {
	m.random = m.random*6364136223846793005 + 1442695040888963407
	return int(m.random >> 33 % uint64(n))
}

func (m *maker) chance(n int) bool { return m.below(n) == 0 }

func (m *maker) one(names string) string {
	l := strings.Fields(names)
	return l[m.below(len(l))]
}

// several makes at least so many, and at most two more.
func several[X any](m *maker, least int, give func() X) []X {
	var l []X
	for range least + m.below(3) {
		l = append(l, give())
	}
	return l
}

func (m *maker) variable() api.Term { return variab(m.one("X Y Z _ Ab _c")) }

// state returns a state variable with a mark.
func (m *maker) state(marks string) api.Term { return app(m.one(marks), variab(m.one("S T U"))) }

// term returns a term in a goal or a head.
func (m *maker) term(depth int) api.Term {
	sub := func() api.Term { return m.term(depth - 1) }
	switch m.below(12) {
	case 0, 1:
		return m.variable()
	case 2:
		return []api.Term{num(int64(m.below(5) - 2)), str(m.one("a b")), {Kind: api.TChar, Num: 97}}[m.below(3)]
	case 3, 4:
		if depth > 0 {
			return app(m.one("f g + = :: , -> :- is"), sub(), sub())
		}
	case 5:
		if depth > 0 {
			return app(m.one("f g - \\+ pred {}"), sub())
		}
	case 6:
		if depth > 0 {
			return joined("[|]", append(several(m, 1, sub), []api.Term{app("[]"), m.variable()}[m.below(2)]))
		}
	case 7:
		if m.fields && depth > 0 {
			return m.field(sub)
		}
	case 8:
		if m.lambdas > 0 {
			return m.lambda(depth)
		}
	case 9, 10:
		if m.states {
			return m.state("!. !. !:")
		}
	}
	return app(m.one("a b [] f true ! call"))
}

// field returns a term with a field, or with fields, taken or replaced.
func (m *maker) field(sub func() api.Term) api.Term {
	get := app("^", sub(), joined("^", several(m, 1, func() api.Term { return app(m.one("f g h")) })))
	if m.chance(2) {
		return get
	}
	return app(":=", get, sub())
}

// lambda returns a lambda goal. The mode both tells that a state variable is two arguments.
func (m *maker) lambda(depth int) api.Term {
	m.lambdas--
	defer func() { m.lambdas++ }()
	args := several(m, 1, func() api.Term {
		if m.states && m.chance(3) {
			return app("::", m.state("!"), app("both"))
		}
		if m.states && m.chance(3) {
			return app("::", m.state("!."), app("begins"))
		}
		return app("::", m.variable(), app(m.one("in out")))
	})
	return app(":-", app("is", app("pred", args...), app(items.DetName(m.below(api.Dets)))), m.goal(min(depth, 1)))
}

// arguments returns those of a call.
func (m *maker) arguments(least int) []api.Term {
	return several(m, least, func() api.Term {
		if m.states && m.chance(2) {
			return m.state("!")
		}
		return m.term(2)
	})
}

// goal returns the term of a goal.
func (m *maker) goal(depth int) api.Term {
	if depth > 0 && !m.chance(4) {
		return m.compound(func() api.Term { return m.goal(depth - 1) }, "& , ;")
	}
	switch m.below(9) {
	case 0:
		return app(m.one("true fail false"))
	case 1, 2:
		// Two state variables alone would look like what an alternative leaves.
		return app(m.one("= \\="), m.term(2), app("g", m.term(2)))
	case 3:
		return app("call", append([]api.Term{m.variable()}, m.arguments(1)...)...)
	case 4:
		return []api.Term{m.variable(), app("call", m.term(1)), app("call", m.arguments(1)...)}[m.below(3)]
	}
	return m.call()
}

func (m *maker) call() api.Term { return app(m.one("p q r.s + < is []0 where0"), m.arguments(1)...) }

// compound returns a goal with goals in it.
func (m *maker) compound(goal func() api.Term, operators string) api.Term {
	switch m.below(9) {
	case 0, 1, 2, 3:
		return joined(m.one(operators), several(m, 2, goal))
	case 4:
		return app(";", app("->", goal(), goal()), goal())
	case 5:
		return app("->", goal(), goal())
	case 6:
		return app("else", app("if", app("then", goal(), goal())), goal())
	case 7:
		return app(m.one("\\+ not"), goal())
	}
	var l []api.Term
	for i := range m.below(3) {
		l = append(l, variab("V"+strconv.Itoa(i)))
		if m.states && m.chance(2) {
			l[i] = app("!", variab([]string{"S", "T", "U"}[i]))
		}
	}
	return app("some", joined("[|]", append(l, app("[]"))), goal())
}

// phrase returns the term of a goal of a grammar.
func (m *maker) phrase(depth int) api.Term {
	if depth > 0 && !m.chance(4) {
		return m.compound(func() api.Term { return m.phrase(depth - 1) }, ", ;")
	}
	switch m.below(7) {
	case 0:
		return app(m.one("true []"))
	case 1:
		return joined("[|]", append(several(m, 1, func() api.Term { return m.term(1) }), app("[]")))
	case 2:
		return []api.Term{str("ab"), str(""), str("c")}[m.below(3)]
	case 3:
		return app("{}", m.goal(1))
	case 4:
		return app("call", append([]api.Term{m.variable()}, m.arguments(1)...)...)
	}
	return m.call()
}

// clause returns the term of a clause.
func (m *maker) clause() api.Term {
	head := app(m.one("p q + 'a [|]0"), m.arguments(1)...)
	switch m.below(5) {
	case 0:
		head = app("=", head, m.term(2))
	case 1:
		if m.states {
			return app("-->", head, m.phrase(3))
		}
	case 2:
		return head
	}
	return app(":-", head, m.goal(3))
}

// clauses yields terms that Clause makes clauses of.
func clauses(t *testing.T, m *maker, n int, yield func(api.Term, api.Clause)) {
	t.Helper()
	made := 0
	for range n {
		x := m.clause()
		c, f := Clause(x)
		if f.Code == api.OK {
			made++
			yield(x, c)
		} else if f.Code != api.ErrLimit || terms.Check(x) == api.ErrLimit && terms.Depth(x) <= api.MaxNest {
			t.Fatalf("%v: %s", f, termLine(x))
		}
	}
	if made < n*9/10 {
		t.Error(made, n)
	}
}

// textOf returns the text of a term with a stop.
func textOf(t *testing.T, x api.Term) string {
	t.Helper()
	s, e := pretty.Items([]api.Term{x})
	if e != api.OK {
		t.Fatal(e)
	}
	return s
}

// P5.3: the clause of the term of a clause is the clause, also over its text.
func TestClausesReadBack(t *testing.T) {
	m := &maker{random: 1, fields: true, lambdas: 2}
	clauses(t, m, 8000, func(x api.Term, c api.Clause) {
		back, e := Term(c)
		if e != api.OK {
			t.Fatalf("%v: %s", e, textOf(t, x))
		}
		again, f := Clause(back)
		if f.Code != api.OK || clauseLine(again) != clauseLine(c) || !sameClause(again, c) {
			t.Fatalf("%s: %v %s", textOf(t, x), f, textOf(t, back))
		}
		more, e := Term(again)
		if e != api.OK || !identical(more, back) {
			t.Fatalf("%v: %s", e, textOf(t, x))
		}
		l, f := terms.Text(textOf(t, back))
		if f.Code != api.OK || len(l) != 1 || !terms.Same(l[0], back) {
			t.Fatalf("%s: %v", textOf(t, back), f)
		}
	})
}

// variables counts the occurrences of each variable in terms.
func variables(l []api.Term, count map[string]int) {
	for _, x := range l {
		if x.Kind == api.TVar {
			count[x.Name]++
		}
		variables(x.Args, count)
	}
}

// stepVariables counts those of a goal.
func stepVariables(s api.Step, count map[string]int) {
	variables(s.Args, count)
	for _, v := range s.Vars {
		count[v]++
	}
	for _, k := range s.Kids {
		stepVariables(k, count)
	}
}

// clauseVariables returns those of a clause, each as often as it occurs.
func clauseVariables(c api.Clause) map[string]int {
	count := map[string]int{}
	variables(c.Head, count)
	stepVariables(c.Body, count)
	for _, l := range c.Lams {
		variables(l.Args, count)
		variables(l.Modes, count)
		stepVariables(l.Body, count)
	}
	return count
}

// P5.3: a clause without state variables, fields and grammar has the variables of its term.
func TestVariablesStay(t *testing.T) {
	m := &maker{random: 2, lambdas: 2}
	clauses(t, m, 10000, func(x api.Term, c api.Clause) {
		want := map[string]int{}
		variables([]api.Term{x}, want)
		if got := clauseVariables(c); !maps.Equal(got, want) {
			t.Errorf("%s: %v, not %v", textOf(t, x), got, want)
		}
	})
}

// P5.3: each version but the first one is made once, and the versions of a state variable have the numbers from 1 on.
func TestVersionsAreNumbered(t *testing.T) {
	m := &maker{random: 3, states: true, fields: true, lambdas: 1}
	clauses(t, m, 10000, func(x api.Term, c api.Clause) {
		found := clauseVariables(c)
		for name := range found {
			state := strings.TrimRight(name, "0123456789")
			number, e := strconv.Atoi(name[len(state):])
			if !strings.HasPrefix(name, "!") || e != nil || number < 2 {
				continue
			}
			if before := state + strconv.Itoa(number-1); found[before] == 0 {
				t.Errorf("%s: no %s in %s", textOf(t, x), before, clauseLine(c))
			}
		}
		if _, e := Term(c); e != api.ErrForm && len(found) > 0 && strings.Contains(clauseLine(c), "!S") {
			t.Errorf("%s: %v", textOf(t, x), e)
		}
	})
}

// P5.2, P5.3: texts of modules that Write returns are read as the modules.
func TestModulesReadBack(t *testing.T) {
	m := &maker{random: 4, fields: true, lambdas: 2}
	var module func(depth int) api.Module
	module = func(depth int) api.Module {
		x := api.Module{Name: m.one("a b m.k"), Public: depth < 2 && m.chance(2)}
		for _, name := range several(m, 0, func() string { return m.one("t u") }) {
			x.Types = append(x.Types, api.TypeDef{Name: name, Kind: api.DAbstract, Public: m.chance(2)})
			x.Decls = append(x.Decls, api.Decl{Name: name, Types: []api.Type{{Kind: api.YCon, Name: name}}, Modes: []api.Moding{{Args: []api.Term{app("in")}}}, Public: m.chance(2)})
		}
		for range m.below(5) {
			c, f := Clause(m.clause())
			if f.Code == api.OK {
				x.Clauses = append(x.Clauses, c)
			}
		}
		for range m.below(3) * depth {
			x.Kids = append(x.Kids, module(depth-1))
		}
		return x
	}
	for range 500 {
		x := module(2)
		s, e := Write(x)
		again, f := Text(s)
		if e != api.OK || f.Code != api.OK || moduleLines(again) != moduleLines(x) || len(again.Types) != len(x.Types) || len(again.Decls) != len(x.Decls) {
			t.Fatalf("%v %v: %s\n%s", e, f, moduleLines(x), s)
		}
		more, e := Write(again)
		if e != api.OK || more != s {
			t.Fatalf("%v: %s\n%s", e, s, more)
		}
	}
}

// P5.1, P5.2: where a part of a term is another one, there is a fault and nothing else, or a clause that is read back or has no term.
func TestOtherParts(t *testing.T) {
	m := &maker{random: 5, states: true, fields: true, lambdas: 2}
	faults, errors, read := map[api.Errno]int{}, map[api.Errno]int{}, 0
	for i := range 16000 {
		m.states = i%2 == 0
		l := []api.Term{m.clause()}
		wanted, count := m.below(terms.Size(l[0])), 0
		for x := range within(l) {
			if count++; count-1 == wanted {
				m.states = m.chance(2)
				*x = []api.Term{m.term(2), m.goal(1), m.variable(), m.state("! !. !:"), num(1), app("[]"), app("if", m.goal(1)), app("::", m.term(1), m.term(1)), app("some", m.term(1), m.goal(0)), app("!", app("a"))}[m.below(10)]
				x.At = 1000
			}
		}
		c, f := Clause(l[0])
		faults[f.Code]++
		if f.Code != api.OK {
			if !isZero(c) || f.Code == api.ErrSyntax && f.At != 1000 && f.At != 0 {
				t.Errorf("%v: %s", f, clauseLine(c))
			}
			continue
		}
		back, e := Term(c)
		errors[e]++
		again, f := Clause(back)
		if e == api.OK && (f.Code != api.OK || clauseLine(again) != clauseLine(c)) || e != api.OK && !identical(back, api.Term{}) {
			t.Errorf("%v: %s", e, textOf(t, l[0]))
		}
		if e == api.OK {
			read++
		}
	}
	if faults[api.ErrSyntax] < 1500 || read < 2000 || errors[api.ErrForm] < 2000 {
		t.Error(faults, errors, read)
	}
}

// scrambled changes all that a clause has, in the memory that it has.
func scrambled(c *api.Clause) {
	change := func(l []api.Term) {
		for x := range within(l) {
			x.Name, x.At = "scrambled", -1
		}
	}
	var goal func(*api.Step)
	goal = func(s *api.Step) {
		change(s.Args)
		for i := range s.Vars {
			s.Vars[i] = "scrambled"
		}
		for i := range s.Kids {
			goal(&s.Kids[i])
		}
		s.At = -1
	}
	change(c.Head)
	goal(&c.Body)
	for i := range c.Lams {
		change(c.Lams[i].Args)
		change(c.Lams[i].Modes)
		goal(&c.Lams[i].Body)
	}
}

// P1, P2: arguments and results share no memory, nor do two parts of a result, and equal calls have equal results.
func TestMemory(t *testing.T) {
	for _, m := range []*maker{{random: 6, states: true, fields: true, lambdas: 2}, {random: 7, fields: true, lambdas: 2}} {
		clauses(t, m, 1500, func(x api.Term, c api.Clause) {
			before := copied(x, kept)
			d, _ := Clause(x)
			back, e := Term(d)
			written, line := copied(back, kept), clauseLine(c)
			scrambled(&c)
			if !identical(x, before) || clauseLine(d) != line {
				t.Fatal(line)
			}
			scrambledTerm(&x)
			if clauseLine(d) != line {
				t.Fatal(line)
			}
			again, g := Term(d)
			if e != g || !identical(again, written) {
				t.Fatal(line)
			}
			scrambledTerm(&back)
			if clauseLine(d) != line || !identical(again, written) {
				t.Fatal(line)
			}
		})
	}
	// Nor do they share what lies behind the end of a list.
	c, f := Clause(app(":-", app("p"), app("q", api.Term{Kind: api.TApp, Name: "a", Args: make([]api.Term, 0, 9)})))
	if f.Code != api.OK || cap(c.Body.Args[0].Args) > 0 {
		t.Error(f, cap(c.Body.Args[0].Args))
	}
}

// scrambledTypes changes types, and what is in them.
func scrambledTypes(l []api.Type) {
	for i := range l {
		scrambledTypes(l[i].Args)
		l[i].Name = "scrambled"
	}
}

func scrambledNeeds(l []api.Need) {
	for i := range l {
		scrambledTypes(l[i].Types)
		l[i].Class = "scrambled"
	}
}

func scrambledDecls(l []api.Decl) {
	for i, d := range l {
		scrambledTypes(d.Types)
		scrambledNeeds(d.Needs)
		for k, m := range d.Modes {
			for a := range m.Args {
				scrambledTerm(&m.Args[a])
			}
			d.Modes[k].Det = -1
		}
		l[i].Name = "scrambled"
	}
}

func scrambledNames(l []string) {
	for i := range l {
		l[i] = "scrambled"
	}
}

// scrambledModule changes all that a module has but its clauses, in the memory that it has.
func scrambledModule(m *api.Module) {
	for i := range m.Uses {
		m.Uses[i].Name = "scrambled"
	}
	for i, x := range m.Types {
		scrambledNames(x.Params)
		for k, c := range x.Ctors {
			scrambledTypes(c.Args)
			scrambledNames(c.Fields)
			x.Ctors[k].Name = "scrambled"
		}
		scrambledTypes(x.Same.Args)
		m.Types[i].Name = "scrambled"
	}
	for i := range m.Insts {
		scrambledTerm(&m.Insts[i].Body)
		m.Insts[i].Name = "scrambled"
	}
	for i := range m.Modes {
		scrambledTerm(&m.Modes[i].From)
		scrambledTerm(&m.Modes[i].To)
		m.Modes[i].Name = "scrambled"
	}
	scrambledDecls(m.Decls)
	for i, x := range m.Classes {
		scrambledNames(x.Params)
		scrambledNeeds(x.Supers)
		scrambledDecls(x.Methods)
		m.Classes[i].Name = "scrambled"
	}
	for i, x := range m.Instances {
		scrambledTypes(x.Types)
		scrambledNeeds(x.Needs)
		scrambledNames(x.Impls)
		m.Instances[i].Class = "scrambled"
	}
	for i := range m.Laws {
		m.Laws[i].Name = "scrambled"
	}
	for i := range m.Clauses {
		scrambled(&m.Clauses[i])
	}
	for i := range m.Kids {
		scrambledModule(&m.Kids[i])
	}
}

func scrambledUnit(u *items.Unit) {
	scrambledModule(&u.Module)
	for i := range u.Clauses {
		scrambledTerm(&u.Clauses[i])
	}
	for i := range u.Kids {
		scrambledUnit(&u.Kids[i])
	}
}

// P1: likewise for modules.
func TestMemoryOfModules(t *testing.T) {
	m, f := Text(manyModules)
	text, e := Write(m)
	if f.Code != api.OK || e != api.OK {
		t.Fatal(f, e)
	}
	u, _ := Unit(m)
	n, _ := Module(u)
	v, _ := Unit(n)
	for i, change := range []func(){func() {}, func() { scrambledUnit(&u) }, func() { scrambledModule(&m) }, func() { scrambledModule(&n) }} {
		change()
		if i < 3 {
			if s, e := Write(n); e != api.OK || s != text {
				t.Error(i, e, s)
			}
		}
		if i < 2 {
			if s, e := Write(m); e != api.OK || s != text {
				t.Error(i, e, s)
			}
		}
		if w, f := Module(v); f.Code != api.OK || moduleLines(w) == "" {
			t.Error(i, f)
		} else if s, e := Write(w); e != api.OK || s != text {
			t.Error(i, e, s)
		}
	}
}

func scrambledTerm(t *api.Term) {
	l := []api.Term{*t}
	for x := range within(l) {
		x.Name, x.At = "scrambled", -1
	}
}

// P5.1: a grammar's clause is the clause with a state variable that the text itself could have, but for its name.
func TestGrammarsAreClauses(t *testing.T) {
	for _, x := range []row{
		{"s(X) --> a, [b, X], {c}, d(X) ; e", "s(X, !D) :- ( a(!D), !.D = [b, X | !:D], c, d(X, !D) ; e(!D) )"}, {"s --> \\+ a, (b -> c ; d), P", "s(!D) :- \\+ a(!D), ( b(!D) -> c(!D) ; d(!D) ), call(P, !D)"}, {"s --> \"ab\", some [X] [X]", "s(!D) :- !.D = [0'a, 0'b | !:D], some [X] !.D = [X | !:D]"}, {"s(!X) --> a(!X), {!:X = 1}, b(!.X) ; []", "s(!X, !D) :- ( a(!X, !D), !:X = 1, b(!.X, !D) ; true )"}, {"s --> call(p((pred(X::in) is det :- {q})), X)", "s(!D) :- call(p((pred(X::in) is det :- {q})), X, !D)"},
	} {
		got := strings.ReplaceAll(clauseLine(clauseOf(t, x.text)), "!-", "!D")
		if want := clauseLine(clauseOf(t, x.want)); got != want {
			t.Errorf("%s: %s, not %s", x.text, got, want)
		}
	}
}

// P5.1: whatever terms may stand in lists, goals and clauses in, Goal is the goal of a clause without arguments.
func TestGoalsOfClauses(t *testing.T) {
	m := &maker{random: 8, states: true, fields: true, lambdas: 2}
	for range 5000 {
		x := m.goal(3)
		s, lams, f := Goal(x)
		c, g := Clause(app(":-", app("p"), x))
		if f != g || stepLine(s) != stepLine(c.Body) || !slices.EqualFunc(lams, c.Lams, identicalLams) || !identicalSteps(s, c.Body) {
			t.Errorf("%v %v: %s", f, g, termLine(x))
		}
	}
}
