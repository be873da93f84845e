package steps

import (
	"slices"

	"cinnabar/api"
)

// A part is a function that makes a goal of a term in another one.
type part func(api.Term) api.Step

// goal returns the goal of a term.
func (r *reader) goal(t api.Term) api.Step {
	switch {
	case isApp(t, "fail", 0), isApp(t, "false", 0):
		return api.Step{Kind: api.SOr, At: t.At}
	case isApp(t, "&", 2):
		return r.row(api.SPar, t, r.goal)
	case isApp(t, "=", 2):
		return r.equation(t)
	case isApp(t, "\\=", 2):
		return r.not(t.At, t, r.equation)
	}
	if s, ok := r.compound(t, r.goal); ok {
		return s
	}
	return r.call(t)
}

// compound returns the goal of a term whose parts are goals in a clause and in a grammar alike, and whether it is one.
func (r *reader) compound(t api.Term, goal part) (api.Step, bool) {
	switch {
	case isApp(t, "true", 0):
		return api.Step{Kind: api.SAnd, At: t.At}, true
	case isApp(t, ",", 2):
		return r.row(api.SAnd, t, goal), true
	case isConditional(t):
		return r.choice(t.At, []api.Term{t.Args[0].Args[0], t.Args[0].Args[1], t.Args[1]}, goal), true
	case isApp(t, "->", 2):
		return r.choice(t.At, t.Args, goal), true
	case isApp(t, "else", 2) && isApp(t.Args[0], "if", 1) && isApp(t.Args[0].Args[0], "then", 2):
		then := t.Args[0].Args[0]
		return r.choice(t.At, []api.Term{then.Args[0], then.Args[1], t.Args[1]}, goal), true
	case isApp(t, ";", 2):
		return r.either(t, goal), true
	case isApp(t, "\\+", 1), isApp(t, "not", 1):
		return r.not(t.At, t.Args[0], goal), true
	case isApp(t, "some", 2):
		return r.some(t, goal), true
	}
	return api.Step{}, false
}

// row returns goals side by side, each of which begins with what the one before leaves.
func (r *reader) row(kind int, t api.Term, goal part) api.Step {
	s := api.Step{Kind: kind, At: t.At}
	for x := range sides(t, t.Name) {
		s.Kids = append(s.Kids, goal(x))
	}
	return s
}

// either returns a disjunction.
func (r *reader) either(t api.Term, goal part) api.Step {
	s := api.Step{Kind: api.SOr, At: t.At}
	before := r.snapshot()
	var ends []ending
	for x := range sides(t, ";") {
		s.Kids = append(s.Kids, goal(x))
		ends = append(ends, r.leave(before))
	}
	r.join(s.Kids, ends, t.At)
	return s
}

// choice returns a condition with its then part and its else part, which fails if there is none.
func (r *reader) choice(at int, l []api.Term, goal part) api.Step {
	before := r.snapshot()
	condition := goal(l[0])
	then := goal(l[1])
	// The then part goes on with the condition: what both leave together is what stands against the else part.
	ends := []ending{r.leave(before)}
	other := api.Step{Kind: api.SOr, At: at}
	if len(l) > 2 {
		other = goal(l[2])
	}
	ends = append(ends, r.leave(before))
	kids := []api.Step{condition, then, other}
	r.join(kids[1:], ends, at)
	return api.Step{Kind: api.SIf, Kids: kids, At: at}
}

// join makes a new version of each state variable of which one of some alternatives leaves another version, and makes each alternative leave it. What is added is the goal of no term, so it has the place of the whole; an alternative stays the goal of its own term, and keeps its place.
func (r *reader) join(kids []api.Step, ends []ending, at int) {
	changed := make([]bool, len(r.names))
	for _, e := range ends {
		for x := range e {
			changed[x] = true
		}
	}
	same := make([][]api.Step, len(kids))
	for x := range changed {
		if !changed[x] {
			continue
		}
		before := r.now[x]
		r.now[x] = r.fresh(x)
		for i, e := range ends {
			left, ok := e[x]
			if !ok {
				left = before
			}
			sides := []api.Term{r.versionTerm(x, r.now[x], at), r.versionTerm(x, left, at)}
			same[i] = append(same[i], api.Step{Kind: api.SSame, Args: sides, At: at})
		}
	}
	for i, k := range kids {
		if len(same[i]) > 0 {
			kids[i] = api.Step{Kind: api.SAnd, Kids: slices.Concat([]api.Step{k}, same[i]), At: k.At}
		}
	}
}

// not returns the negation of a goal, which leaves nothing.
func (r *reader) not(at int, t api.Term, goal part) api.Step {
	before := r.snapshot()
	s := api.Step{Kind: api.SNot, Kids: []api.Step{goal(t)}, At: at}
	r.backTo(before)
	return s
}

// A local is a variable, or a state variable, that a goal has for itself.
type local struct {
	name  string
	state bool
}

// some returns a goal with variables of its own. Its state variables begin anew, and are forgotten behind it.
func (r *reader) some(t api.Term, goal part) api.Step {
	locals := listed(t.Args[0])
	before, first := map[int]int{}, map[int]int{}
	for _, v := range locals {
		x := r.index[v.name]
		if _, begun := first[x]; v.state && !begun {
			before[x] = r.now[x]
			first[x] = r.fresh(x)
			r.now[x] = first[x]
		}
	}
	s := api.Step{Kind: api.SSome, Kids: []api.Step{goal(t.Args[1])}, At: t.At}
	for x, v := range before {
		r.now[x] = v
	}
	for _, v := range locals {
		if !v.state {
			s.Vars = append(s.Vars, v.name)
			continue
		}
		x := r.index[v.name]
		for number := first[x]; number <= r.made[x]; number++ {
			s.Vars = append(s.Vars, r.version(x, number))
		}
	}
	for _, name := range s.Vars {
		r.variable(name)
	}
	return s
}

// listed returns the variables of a list, which must be one of them alone.
func listed(t api.Term) []local {
	var l []local
	for ; isApp(t, "[|]", 2); t = t.Args[1] {
		x := t.Args[0]
		state := isApp(x, "!", 1) && x.Args[0].Kind == api.TVar
		must(state || x.Kind == api.TVar && x.Name != "_", x)
		if state {
			x = x.Args[0]
		}
		l = append(l, local{x.Name, state})
	}
	must(isApp(t, "[]", 0), t)
	return l
}

// equation returns the goal that two terms are equal.
func (r *reader) equation(t api.Term) api.Step {
	left := r.term(t.Args[0])
	right := r.term(t.Args[1])
	return api.Step{Kind: api.SSame, Args: r.putNew([]api.Term{left, right}), At: t.At}
}

// call returns the call of a predicate or a closure, with more arguments behind its own.
func (r *reader) call(t api.Term, more ...api.Term) api.Step {
	s, args := api.Step{Kind: api.SCall, Name: t.Name, At: t.At}, t.Args
	switch {
	case t.Kind == api.TVar:
		s.Kind, s.Name, args = api.SHigher, "", []api.Term{t}
	case t.Kind == api.TApp && t.Name == "call" && len(args) > 0:
		s.Kind, s.Name = api.SHigher, ""
	default:
		// With one more argument a mark alone would be a mark of that.
		must(isCallable(t) && !(isMark(t.Name) && len(args)+len(more) == 1), t)
	}
	args = slices.Concat(args, more)
	r.countArguments(args, t.At)
	s.Args = r.putNew(r.arguments(args))
	return s
}

// isCallable reports whether a term may be the call of a predicate.
func isCallable(t api.Term) bool {
	switch t.Name {
	case ":-", "-->", "else", "then", "if", "where", "==":
		return false
	}
	return t.Kind == api.TApp && !isMarked(t)
}
