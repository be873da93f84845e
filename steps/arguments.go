package steps

import (
	"cinnabar/api"
	"cinnabar/items"
)

// arguments returns the terms of arguments, in which a !: stays until its version is known.
func (r *reader) arguments(l []api.Term) []api.Term {
	var list []api.Term
	for _, t := range l {
		if !isApp(t, "!", 1) {
			list = append(list, r.term(t))
			continue
		}
		must(t.Args[0].Kind == api.TVar, t)
		name := t.Args[0].Name
		x := r.index[name]
		list = append(list, r.versionTerm(x, r.now[x], t.At), markedState("!:", name, t.At))
	}
	return list
}

// put puts versions in the places of the !: in terms.
func (r *reader) put(l []api.Term, number func(x int) int) {
	for t := range within(l) {
		if isApp(*t, "!:", 1) {
			x := r.index[t.Args[0].Name]
			*t = r.versionTerm(x, number(x), t.At)
		}
	}
}

// putNew puts a new version of each state variable that has a !: in the arguments of a goal, and is current behind it.
func (r *reader) putNew(l []api.Term) []api.Term {
	news := map[int]int{}
	r.put(l, func(x int) int {
		if _, ok := news[x]; !ok {
			news[x] = r.fresh(x)
		}
		return news[x]
	})
	for x, v := range news {
		r.now[x] = v
	}
	return l
}

// putCurrent puts the versions that a body leaves in its head.
func (r *reader) putCurrent(l []api.Term) {
	r.put(l, func(x int) int { return r.now[x] })
}

// versionTerm returns the variable that is a version.
func (r *reader) versionTerm(x, number, at int) api.Term {
	return r.variableTerm(r.version(x, number), at)
}

func (r *reader) variableTerm(name string, at int) api.Term {
	r.variable(name)
	return api.Term{Kind: api.TVar, Name: name, At: at}
}

// term returns a term in a goal or a head, in which a !: stays. A list may be longer than calls can be nested, but only in its last arguments.
func (r *reader) term(t api.Term) api.Term {
	var whole api.Term
	to := &whole
	for len(t.Args) > 0 && !isMarked(t) && !isGet(t) && !isSet(t) && !isLambda(t) {
		r.terms++
		*to = t
		to.Args = make([]api.Term, len(t.Args))
		last := len(t.Args) - 1
		for i, x := range t.Args[:last] {
			to.Args[i] = r.term(x)
		}
		to, t = &to.Args[last], t.Args[last]
	}
	r.terms++
	*to = r.meant(t)
	return whole
}

// meant returns what a term stands for that is no plain application.
func (r *reader) meant(t api.Term) api.Term {
	switch {
	case t.Kind == api.TVar:
		return r.variableTerm(t.Name, t.At)
	case isMarked(t):
		return r.marked(t)
	case isGet(t):
		return r.get(t)
	case isSet(t):
		return r.set(t)
	case isLambda(t):
		return r.lambda(t)
	}
	t.Args = nil
	return t
}

// marked returns what a state variable with a mark stands for.
func (r *reader) marked(t api.Term) api.Term {
	must(t.Name != "!" && t.Args[0].Kind == api.TVar, t)
	name := t.Args[0].Name
	if t.Name == "!:" {
		return markedState("!:", name, t.At)
	}
	x := r.index[name]
	return r.versionTerm(x, r.now[x], t.At)
}

// get returns the application that takes fields of a term.
func (r *reader) get(t api.Term) api.Term {
	x := r.term(t.Args[0])
	for f := range sides(t.Args[1], "^") {
		x = api.Term{Kind: api.TApp, Name: "^" + f.Name, Args: []api.Term{x}, At: t.At}
	}
	return x
}

// set returns the application that replaces a field of a term: with a path behind the field, by what the path is replaced in.
func (r *reader) set(t api.Term) api.Term {
	get, value := t.Args[0], t.Args[1]
	whole, path := get.Args[0], get.Args[1]
	r.expect(grown(t))
	x := r.term(whole)
	field := path
	if isApp(path, "^", 2) {
		if r.isOver() {
			// There is no result any more, and there may be no time for as many copies as it would have.
			whole = api.Term{Kind: api.TInt}
		}
		field = path.Args[0]
		inner := api.Term{Kind: api.TApp, Name: "^", Args: []api.Term{whole, field}, At: get.At}
		inner = api.Term{Kind: api.TApp, Name: "^", Args: []api.Term{inner, path.Args[1]}, At: get.At}
		value = api.Term{Kind: api.TApp, Name: ":=", Args: []api.Term{inner, value}, At: t.At}
	}
	v := r.term(value)
	return api.Term{Kind: api.TApp, Name: "^" + field.Name + ":=", Args: []api.Term{x, v}, At: t.At}
}

// lambda returns the term of a lambda goal, which is added to those of the clause.
func (r *reader) lambda(t api.Term) api.Term {
	h, det := t.Args[0].Args[0], t.Args[0].Args[1]
	must(len(h.Args) > 0, h)
	index := len(r.lams)
	r.lams = append(r.lams, api.Lam{})
	before := r.snapshot()
	lam := api.Lam{At: t.At}
	r.lambdaArguments(&lam, h.Args)
	d, ok := items.Det(det.Name)
	must(ok && isApp(det, det.Name, 0), det)
	lam.Det = d
	lam.Body = r.goal(t.Args[1])
	r.putCurrent(lam.Args)
	r.backTo(before)
	r.lams[index] = lam
	return api.Term{Kind: api.TLam, Num: int64(index), At: t.At}
}

// lambdaArguments gives a lambda goal its arguments and modes. Its body begins with new versions of the state variables among them.
func (r *reader) lambdaArguments(lam *api.Lam, l []api.Term) {
	var args []api.Term
	begun := map[int]bool{}
	for _, t := range l {
		if !isApp(t, "::", 2) {
			continue
		}
		args = append(args, t.Args[0])
		if a := t.Args[0]; isMarked(a) && a.Args[0].Kind == api.TVar {
			if x := r.index[a.Args[0].Name]; !begun[x] {
				begun[x] = true
				r.now[x] = r.fresh(x)
			}
		}
	}
	r.countArguments(args, lam.At)
	for _, t := range l {
		must(isApp(t, "::", 2), t)
		args := r.arguments(t.Args[:1])
		lam.Args = append(lam.Args, args...)
		for range args {
			lam.Modes = append(lam.Modes, r.mode(t.Args[1]))
		}
	}
}

// mode returns the mode of an argument, which is no term of a goal: nothing in it stands for anything else.
func (r *reader) mode(t api.Term) api.Term {
	l := []api.Term{copied(t, kept)}
	for x := range within(l) {
		must(!isMarked(*x), *x)
		if x.Kind == api.TVar {
			r.variable(x.Name)
		}
	}
	return l[0]
}
