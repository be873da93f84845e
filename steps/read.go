package steps

import (
	"slices"

	"cinnabar/api"
)

// A reader makes a clause of a term. What it refuses at a term leaves it at once, so that the first such term decides; what is beyond a limit is noted, and comes behind that.
type reader struct {
	states
	tally
	lams    []api.Lam
	crowded api.Fault // that of the first arguments that are too many
}

// clause returns the clause of a term.
func (r *reader) clause(t api.Term) api.Clause {
	h, rule, grammar := t, isApp(t, ":-", 2), isApp(t, "-->", 2)
	if rule || grammar {
		h = t.Args[0]
	}
	r.find(h)
	if grammar {
		r.add(sequence)
	}
	r.find(t)
	c := api.Clause{At: t.At}
	c.Head = r.arguments(r.head(&c, h, grammar))
	switch {
	case rule:
		c.Body = r.goal(t.Args[1])
	case grammar:
		c.Body = r.phrase(t.Args[1])
	default:
		c.Body = api.Step{Kind: api.SAnd, At: t.At}
	}
	r.putCurrent(c.Head)
	c.Lams = r.lams
	return c
}

// body returns a clause without a head, whose body is the goal of a term.
func (r *reader) body(t api.Term) api.Clause {
	r.find(t)
	s := r.goal(t)
	return api.Clause{Body: s, Lams: r.lams}
}

// head returns the arguments of a head, and gives its name to the clause.
func (r *reader) head(c *api.Clause, h api.Term, grammar bool) []api.Term {
	call, args := h, h.Args
	if isApp(h, "=", 2) {
		must(!grammar, h)
		call = h.Args[0]
		must(!isVariableCall(call), call)
		c.Func, args = true, slices.Concat(call.Args, h.Args[1:])
	}
	must(call.Kind == api.TApp && !isMarked(call), call)
	c.Name = call.Name
	if grammar {
		must(!isMark(call.Name) || len(args) > 0, call)
		args = slices.Concat(args, []api.Term{markedState("!", sequence, h.At)})
	}
	r.countArguments(args, h.At)
	return args
}

// isVariableCall reports whether a term calls what a variable is.
func isVariableCall(t api.Term) bool {
	return t.Kind == api.TApp && t.Name == "call" && len(t.Args) > 0 && t.Args[0].Kind == api.TVar
}
