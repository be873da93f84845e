package steps

import (
	"maps"
	"slices"
	"strconv"
	"strings"
	"testing"

	"cinnabar/api"
)

// What state variables mean is told twice here: by going through the term of a clause with a store in which they are changed, and by going through the clause, where each version has one value. Both ways take the same alternatives, and must come by the same goals with the same values.

// A way goes through goals: each has a number, and where there are alternatives the next choice decides.
type way struct {
	choices maker
	count   int
	trace   []string
}

// number returns the number of the next goal.
func (w *way) number() string {
	w.count++
	return strconv.Itoa(w.count) + "."
}

func (w *way) met(name string, args []string) {
	w.trace = append(w.trace, name+"("+strings.Join(args, ", ")+")")
}

// A store goes through a term.
type store struct {
	*way
	now map[string]string // the values of the state variables
	id  string            // the number of the goal
	new map[string]bool   // the state variables that it changes
}

func (s *store) value(name string) string {
	if v, ok := s.now[name]; ok {
		return v
	}
	return name + " at first"
}

// forgetting runs what leaves nothing.
func (s *store) forgetting(run func()) {
	before := maps.Clone(s.now)
	run()
	s.now = before
}

// parts returns what stands between an operator.
func partsOf(t api.Term, operator string) []api.Term {
	if !isApp(t, operator, 2) || operator == ";" && isApp(t.Args[0], "->", 2) {
		return []api.Term{t}
	}
	return append(partsOf(t.Args[0], operator), partsOf(t.Args[1], operator)...)
}

// goal goes through a goal, of a clause or of a grammar.
func (s *store) goal(t api.Term, grammar bool) {
	part := func(x api.Term) { s.goal(x, grammar) }
	choose := func(c, then api.Term, other func()) {
		if s.choices.chance(2) {
			part(c)
			part(then)
		} else {
			other()
		}
	}
	switch {
	case isApp(t, "true", 0), !grammar && (isApp(t, "fail", 0) || isApp(t, "false", 0)):
	case isApp(t, ",", 2), !grammar && isApp(t, "&", 2):
		for _, x := range partsOf(t, t.Name) {
			part(x)
		}
	case isApp(t, ";", 2) && isApp(t.Args[0], "->", 2):
		choose(t.Args[0].Args[0], t.Args[0].Args[1], func() { part(t.Args[1]) })
	case isApp(t, "->", 2):
		choose(t.Args[0], t.Args[1], func() {})
	case isApp(t, "else", 2):
		then := t.Args[0].Args[0]
		choose(then.Args[0], then.Args[1], func() { part(t.Args[1]) })
	case isApp(t, ";", 2):
		l := partsOf(t, ";")
		part(l[s.choices.below(len(l))])
	case isApp(t, "\\+", 1), isApp(t, "not", 1):
		s.forgetting(func() { part(t.Args[0]) })
	case isApp(t, "some", 2):
		s.some(t, part)
	case grammar && isApp(t, "{}", 1):
		s.goal(t.Args[0], false)
	default:
		s.atom(t, grammar)
	}
}

// some goes through a goal with state variables of its own.
func (s *store) some(t api.Term, part func(api.Term)) {
	before, id, own := maps.Clone(s.now), s.number(), []string{}
	for l := t.Args[0]; isApp(l, "[|]", 2); l = l.Args[1] {
		if x := l.Args[0]; isApp(x, "!", 1) {
			own = append(own, x.Args[0].Name)
			s.now[x.Args[0].Name] = id + x.Args[0].Name
		}
	}
	part(t.Args[1])
	for _, name := range own {
		delete(s.now, name)
		if v, ok := before[name]; ok {
			s.now[name] = v
		}
	}
}

// atom goes through a goal without goals in it.
func (s *store) atom(t api.Term, grammar bool) {
	name, args := t.Name, t.Args
	switch {
	case grammar && isApp(t, "[]", 0), grammar && t.Kind == api.TText && t.Name == "":
		return
	case grammar && (isApp(t, "[|]", 2) || t.Kind == api.TText):
		name, args = "=", []api.Term{app("!.", variab("-")), sequenceTerm(t)}
	case t.Kind == api.TVar:
		name, args = "call", []api.Term{t}
	case isApp(t, "\\=", 2):
		s.forgetting(func() { s.atom(app("=", args...), false) })
		return
	}
	if grammar && name != "=" {
		args = append(slices.Clone(args), app("!", variab("-")))
	}
	id, new := s.id, s.new
	s.id, s.new = s.number(), map[string]bool{}
	values := s.values(args)
	s.met(name, values)
	for x := range s.new {
		s.now[x] = s.id + x
	}
	s.id, s.new = id, new
}

// sequenceTerm returns the list of the elements, or the characters, of a term of a grammar, with what is left of the sequence behind them.
func sequenceTerm(t api.Term) api.Term {
	if t.Kind == api.TText {
		l := []api.Term{}
		for i := range len(t.Name) {
			l = append(l, api.Term{Kind: api.TChar, Num: int64(t.Name[i])})
		}
		return joined("[|]", append(l, app("!:", variab("-"))))
	}
	if isApp(t, "[]", 0) {
		return app("!:", variab("-"))
	}
	return app("[|]", t.Args[0], sequenceTerm(t.Args[1]))
}

// values returns what arguments are.
func (s *store) values(l []api.Term) []string {
	var list []string
	for _, t := range l {
		if isApp(t, "!", 1) {
			s.new[t.Args[0].Name] = true
			list = append(list, s.value(t.Args[0].Name), s.id+t.Args[0].Name)
		} else {
			list = append(list, s.term(t))
		}
	}
	return list
}

// term returns what a term is.
func (s *store) term(t api.Term) string {
	switch {
	case isApp(t, "!.", 1):
		return s.value(t.Args[0].Name)
	case isApp(t, "!:", 1):
		s.new[t.Args[0].Name] = true
		return s.id + t.Args[0].Name
	case isApp(t, "^", 2):
		if f, p, ok := firstField(t.Args[1]); ok {
			got := "^" + f + "(" + s.term(t.Args[0]) + ")"
			for ; p != nil; f, p, _ = firstField(*p) {
				next, _, _ := firstField(*p)
				got = "^" + next + "(" + got + ")"
			}
			return got
		}
	case isApp(t, ":=", 2) && isApp(t.Args[0], "^", 2):
		if f, p, ok := firstField(t.Args[0].Args[1]); ok {
			x, v := t.Args[0].Args[0], t.Args[1]
			if p != nil {
				v = app(":=", app("^", app("^", x, app(f)), *p), v)
			}
			first := s.term(x)
			return "^" + f + ":=(" + first + ", " + s.term(v) + ")"
		}
	case isApp(t, ":-", 2) && isApp(t.Args[0], "is", 2) && t.Args[0].Args[0].Name == "pred":
		return s.lambda(t)
	}
	if t.Kind != api.TApp || len(t.Args) == 0 {
		return termLine(t)
	}
	return t.Name + "(" + strings.Join(mapped(t.Args, s.term), ", ") + ")"
}

// firstField returns the first field of a path, and the path behind it, unless a term is none.
func firstField(t api.Term) (string, *api.Term, bool) {
	switch {
	case isFieldName(t):
		return t.Name, nil, true
	case isApp(t, "^", 2) && isFieldName(t.Args[0]):
		_, _, ok := firstField(t.Args[1])
		return t.Args[0].Name, &t.Args[1], ok
	}
	return "", nil, false
}

// lambda goes through a lambda goal at once, and returns what its arguments are behind it.
func (s *store) lambda(t api.Term) string {
	list, id := "", s.number()
	s.forgetting(func() {
		args := t.Args[0].Args[0].Args
		for _, a := range args {
			if x := a.Args[0]; isApp(x, "!", 1) || isApp(x, "!.", 1) {
				s.now[x.Args[0].Name] = id + x.Args[0].Name
			}
		}
		s.goal(t.Args[1], false)
		for _, a := range args {
			switch x := a.Args[0]; {
			case isApp(x, "!", 1):
				list += id + x.Args[0].Name + " " + s.value(x.Args[0].Name) + " "
			case isApp(x, "!.", 1):
				list += id + x.Args[0].Name + " "
			default:
				list += termLine(x) + " "
			}
		}
	})
	return "lambda " + list
}

// Versions go through a clause.
type versions struct {
	*way
	lams  []api.Lam
	known map[string]string // the values of the versions
	id    string
	wrong []string
}

// stateOf returns the state variable of a version, and whether a name is one.
func stateOf(name string) (string, bool) {
	if !strings.HasPrefix(name, "!") {
		return "", false
	}
	return strings.TrimRight(name[1:], "0123456789"), true
}

// value returns that of a version; one without a value has that which the goal gives it.
func (v *versions) value(name string) string {
	state, _ := stateOf(name)
	if x, ok := v.known[name]; ok {
		return x
	}
	if name == "!"+state+"0" {
		return state + " at first"
	}
	v.known[name] = v.id + state
	return v.known[name]
}

// begin gives a version its value, which it must not have yet.
func (v *versions) begin(name, value string) {
	if _, ok := v.known[name]; ok {
		v.wrong = append(v.wrong, name+" again")
	}
	v.known[name] = value
}

func (v *versions) forgetting(run func()) {
	before := maps.Clone(v.known)
	run()
	v.known = before
}

// goal goes through a goal.
func (v *versions) goal(g api.Step) {
	switch g.Kind {
	case api.SAnd, api.SPar:
		for _, k := range g.Kids {
			v.goal(k)
		}
	case api.SOr:
		if len(g.Kids) > 0 {
			v.goal(g.Kids[v.choices.below(len(g.Kids))])
		}
	case api.SIf:
		if v.choices.chance(2) {
			v.goal(g.Kids[0])
			v.goal(g.Kids[1])
		} else {
			v.goal(g.Kids[2])
		}
	case api.SNot:
		v.forgetting(func() { v.goal(g.Kids[0]) })
	case api.SSome:
		v.some(g)
	default:
		v.atom(g)
	}
}

// some goes through a goal with versions of its own, of which the first one of each state variable begins.
func (v *versions) some(g api.Step) {
	id, begun, before := v.number(), map[string]bool{}, maps.Clone(v.known)
	for _, name := range g.Vars {
		if state, ok := stateOf(name); ok && !begun[state] {
			begun[state] = true
			v.begin(name, id+state)
		}
	}
	v.goal(g.Kids[0])
	for name := range v.known {
		state, _ := stateOf(name)
		if _, ok := before[name]; !ok && begun[state] {
			if !slices.Contains(g.Vars, name) {
				v.wrong = append(v.wrong, name+" is not local")
			}
			delete(v.known, name)
		}
	}
}

// atom goes through a goal without goals in it. What an alternative leaves is no goal of the term.
func (v *versions) atom(g api.Step) {
	name := map[int]string{api.SSame: "=", api.SCall: g.Name, api.SHigher: "call"}[g.Kind]
	if g.Kind == api.SSame {
		_, left := stateOf(g.Args[0].Name)
		_, right := stateOf(g.Args[1].Name)
		if left && right {
			v.begin(g.Args[0].Name, v.value(g.Args[1].Name))
			return
		}
	}
	id := v.id
	v.id = v.number()
	v.met(name, mapped(g.Args, v.term))
	v.id = id
}

func (v *versions) term(t api.Term) string {
	_, isState := stateOf(t.Name)
	switch {
	case t.Kind == api.TVar && isState:
		return v.value(t.Name)
	case t.Kind == api.TLam:
		return v.lambda(v.lams[t.Num])
	case t.Kind != api.TApp || len(t.Args) == 0:
		return termLine(t)
	}
	return t.Name + "(" + strings.Join(mapped(t.Args, v.term), ", ") + ")"
}

// lambda goes through a lambda goal at once. The modes tell which arguments are the first ones of two versions.
func (v *versions) lambda(lam api.Lam) string {
	list, id := "", v.number()
	v.forgetting(func() {
		begun := map[string]bool{}
		for i := 0; i < len(lam.Args); i++ {
			name, mode := lam.Args[i].Name, lam.Modes[i].Name
			if state, ok := stateOf(name); ok && !begun[name] {
				begun[name] = true
				v.begin(name, id+state)
			}
			if mode == "both" {
				i++
			}
		}
		v.goal(lam.Body)
		for _, a := range lam.Args {
			list += v.term(a) + " "
		}
	})
	return "lambda " + list
}

// hasLambda reports whether a lambda goal stands in terms.
func hasLambda(l []api.Term) bool {
	for x := range within(l) {
		if isLambda(*x) {
			return true
		}
	}
	return false
}

// P5.1, P5.3: state variables mean what their versions say, whatever goals they stand in.
func TestMeaningOfStates(t *testing.T) {
	m := &maker{random: 9, states: true, fields: true, lambdas: 2}
	goals, heads := 0, 0
	clauses(t, m, 6000, func(x api.Term, c api.Clause) {
		head, body := x, app("true")
		grammar := isApp(x, "-->", 2)
		if grammar || isApp(x, ":-", 2) {
			head, body = x.Args[0], x.Args[1]
		}
		if hasLambda([]api.Term{head}) {
			return
		}
		heads++
		for seed := range 4 {
			s := store{way: &way{choices: maker{random: uint64(seed)}}, now: map[string]string{}}
			v := versions{way: &way{choices: maker{random: uint64(seed)}}, lams: c.Lams, known: map[string]string{}}
			s.goal(body, grammar)
			v.goal(c.Body)
			goals += len(s.trace)
			want, got := slices.Concat(s.trace, s.headValues(head, grammar)), slices.Concat(v.trace, mapped(c.Head, v.term))
			if !slices.Equal(got, want) || len(v.wrong) > 0 {
				t.Fatalf("%s\n%s\n got %q\nwant %q\n%v", textOf(t, x), clauseLine(c), got, want, v.wrong)
			}
		}
	})
	if goals < 50000 || heads < 3000 {
		t.Error(goals, heads)
	}
}

// headValues returns what the arguments of a head are, in which !. stands for what was there at first, and !: for what is left.
func (s *store) headValues(h api.Term, grammar bool) []string {
	args := h.Args
	if isApp(h, "=", 2) {
		args = slices.Concat(h.Args[0].Args, h.Args[1:])
	}
	if grammar {
		args = append(slices.Clone(args), app("!", variab("-")))
	}
	var l []api.Term
	for _, a := range args {
		if isApp(a, "!", 1) {
			l = append(l, app("!.", a.Args[0]), app("!:", a.Args[0]))
		} else {
			l = append(l, copied(a, kept))
		}
	}
	for x := range within(l) {
		switch {
		case isApp(*x, "!.", 1):
			*x = variab(x.Args[0].Name + " at first")
		case isApp(*x, "!:", 1):
			*x = variab(s.value(x.Args[0].Name))
		}
	}
	return mapped(l, s.term)
}
