package items

import "cinnabar/api"

// isPredOrFunc reports whether a term says something of a predicate or a function.
func isPredOrFunc(t api.Term) bool { return isApp(t, "pred", 1) || isApp(t, "func", 1) }

// predicate returns the item that declares a predicate or a function, perhaps with needs.
func predicate(t api.Term, at int) item {
	head, restricted := t, isApp(t, "<=", 2)
	if restricted {
		head = t.Args[0]
	}
	d, moded := decl(head, at)
	if restricted {
		d.Needs = needs(t.Args[1])
	}
	return item{fault: unless(moded, at, api.ErrMode), put: func(r *reader) { r.top().declare(d) }}
}

// decl returns a declaration without needs, and whether its modes fit its types.
func decl(t api.Term, at int) (api.Decl, bool) {
	d := api.Decl{Func: t.Name == "func", At: at}
	head, det, given := t.Args[0], api.Det, isApp(t.Args[0], "is", 2)
	if given {
		head = head.Args[0]
	}
	call, result := head, []api.Term(nil)
	if d.Func {
		mustApp(head, "=", 2)
		call, result = head.Args[0], head.Args[1:]
	}
	must(call.Kind == api.TApp && isPlain(call.Name), call)
	d.Name = call.Name
	var modes []api.Term
	for _, l := range [][]api.Term{call.Args, result} {
		for _, x := range l {
			if isApp(x, "::", 2) {
				modes = append(modes, copied(x.Args[1], kept))
				x = x.Args[0]
			}
			d.Types = append(d.Types, readType(x))
		}
	}
	if given {
		det = determinism(t.Args[0].Args[1])
	}
	switch {
	case len(modes) < len(d.Types):
		return d, len(modes) == 0 && !given
	case len(modes) == 0 && !given:
		return d, true
	}
	d.Modes = []api.Moding{{Args: modes, Det: det}}
	return d, given || d.Func
}

// determinism returns the determinism that a term must be.
func determinism(t api.Term) int {
	d, ok := Det(t.Name)
	must(isAtom(t) && ok, t)
	return d
}

// modeDeclaration returns the item that adds a mode to a predicate or a function.
func modeDeclaration(t api.Term, at int) item {
	mustApp(t, "is", 2)
	call, result := t.Args[0], []api.Term(nil)
	function := isApp(call, "=", 2)
	if function {
		call, result = call.Args[0], call.Args[1:]
	}
	must(call.Kind == api.TApp && isPlain(call.Name), call)
	s := signature{function, call.Name, len(call.Args)}
	mode := api.Moding{Det: determinism(t.Args[1])}
	for _, l := range [][]api.Term{call.Args, result} {
		for _, x := range l {
			mode.Args = append(mode.Args, copied(x, kept))
		}
	}
	return item{put: func(r *reader) { r.top().addMode(s, mode, at) }}
}
