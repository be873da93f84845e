package steps

import "cinnabar/api"

// Of so many terms a result has more bytes than one for which anything is promised.
const mostTerms = 1 << 25

// A tally counts what a clause is made of.
type tally struct {
	variables map[string]bool // those that have a name
	nameless  int
	terms     int
}

// variable counts a variable.
func (c *tally) variable(name string) {
	if name == "_" {
		c.nameless++
		return
	}
	if c.variables == nil {
		c.variables = map[string]bool{}
	}
	c.variables[name] = true
}

// expect tells that so many terms will be made, so that it is known ahead if they are too many.
func (c *tally) expect(terms int) {
	if c.terms+terms > mostTerms {
		c.terms = mostTerms + 1
	}
}

// isOver reports whether a limit is exceeded.
func (c *tally) isOver() bool {
	return len(c.variables)+c.nameless > api.MaxVars || c.terms > mostTerms
}

// grown returns about how many terms there are in what a term stands for, or a number that is too great: a term whose field is replaced by a path is copied for each field of the path.
func grown(t api.Term) int {
	n := 1
	for len(t.Args) > 0 && !isSet(t) {
		last := len(t.Args) - 1
		for _, x := range t.Args[:last] {
			n += grown(x)
		}
		n = min(n+1, mostTerms+1)
		t = t.Args[last]
	}
	if !isSet(t) {
		return n
	}
	fields := 0
	for range sides(t.Args[0].Args[1], "^") {
		fields++
	}
	n += fields*(1+fields+grown(t.Args[0].Args[0])) + grown(t.Args[1])
	return min(n, mostTerms+1)
}

// countArguments notes at a place the fault of arguments that are too many, if it is the first one.
func (r *reader) countArguments(l []api.Term, at int) {
	n := len(l)
	for _, x := range l {
		if isApp(x, "!", 1) {
			n++
		}
	}
	if n > api.MaxArgs && r.crowded.Code == api.OK {
		r.crowded = api.Fault{At: at, Code: api.ErrLimit}
	}
}

// checkLimits refuses a clause that is beyond a limit. Of a term at this place it is known that all else is right.
func (r *reader) checkLimits(c api.Clause, at int) {
	if r.crowded.Code != api.OK {
		panic(r.crowded)
	}
	if r.isOver() || nesting(c) > api.MaxNest {
		panic(api.Fault{At: at, Code: api.ErrLimit})
	}
}

// nesting returns how deep goals are nested in a clause.
func nesting(c api.Clause) int {
	return max(nestingOf(c.Body, c.Lams), nestingIn(c.Head, c.Lams))
}

func nestingOf(s api.Step, lams []api.Lam) int {
	deepest := nestingIn(s.Args, lams)
	for _, k := range s.Kids {
		deepest = max(deepest, nestingOf(k, lams))
	}
	return deepest + 1
}

// nestingIn returns the nesting of the deepest body of the lambda goals in terms.
func nestingIn(l []api.Term, lams []api.Lam) int {
	deepest := 0
	for t := range within(l) {
		if t.Kind == api.TLam {
			lam := lams[t.Num]
			deepest = max(deepest, nestingOf(lam.Body, lams), nestingIn(lam.Args, lams))
		}
	}
	return deepest
}
