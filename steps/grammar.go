package steps

import "cinnabar/api"

// phrase returns the goal of a term in a grammar.
func (r *reader) phrase(t api.Term) api.Step {
	switch {
	case isApp(t, "{}", 1):
		return r.goal(t.Args[0])
	case isApp(t, "[]", 0):
		return api.Step{Kind: api.SAnd, At: t.At}
	case isApp(t, "[|]", 2):
		return r.terminals(t)
	case t.Kind == api.TText:
		return r.phrase(characters(t))
	}
	if s, ok := r.compound(t, r.phrase); ok {
		return s
	}
	return r.call(t, markedState("!", sequence, t.At))
}

// terminals returns the goal that the sequence goes on with the elements of a list.
func (r *reader) terminals(t api.Term) api.Step {
	s := api.Step{Kind: api.SSame, At: t.At}
	x := r.index[sequence]
	left := r.versionTerm(x, r.now[x], t.At)
	var whole api.Term
	to := &whole
	for isApp(t, "[|]", 2) {
		*to = api.Term{Kind: api.TApp, Name: t.Name, Args: make([]api.Term, 2), At: t.At}
		to.Args[0] = r.term(t.Args[0])
		to, t = &to.Args[1], t.Args[1]
	}
	must(isApp(t, "[]", 0), t)
	*to = markedState("!:", sequence, t.At)
	s.Args = r.putNew([]api.Term{left, whole})
	return s
}

// characters returns the list of the characters of a string.
func characters(t api.Term) api.Term {
	list := api.Term{Kind: api.TApp, Name: "[]", At: t.At}
	for i := len(t.Name) - 1; i >= 0; i-- {
		c := api.Term{Kind: api.TChar, Num: int64(t.Name[i]), At: t.At}
		list = api.Term{Kind: api.TApp, Name: "[|]", Args: []api.Term{c, list}, At: t.At}
	}
	return list
}
