package items

import "cinnabar/api"

// adding returns an item that adds something to the module in which it stands.
func adding(fault api.Fault, add func(m *api.Module, public bool)) item {
	return item{fault: fault, put: func(r *reader) {
		m := r.top()
		add(&m.unit.Module, m.public)
	}}
}

// clause returns the item of a clause.
func clause(t api.Term) item {
	return item{put: func(r *reader) {
		u := &r.top().unit
		u.Clauses = append(u.Clauses, copied(t, kept))
	}}
}

// declaration returns the item of a declaration at a place.
func declaration(d api.Term, at int) item {
	switch {
	case isApp(d, "interface", 0), isApp(d, "implementation", 0):
		return section(d.Name == "interface")
	case isApp(d, "<=", 2):
		must(isPredOrFunc(d.Args[0]), d.Args[0])
		return predicate(d, at)
	case isPredOrFunc(d):
		return predicate(d, at)
	}
	must(d.Kind == api.TApp && len(d.Args) == 1, d)
	x := d.Args[0]
	switch d.Name {
	case "module":
		name := moduleName(x)
		return item{put: func(r *reader) { r.begin(name, at) }}
	case "end_module":
		name := moduleName(x)
		return item{early: true, put: func(r *reader) { r.end(name, at) }}
	case "import_module":
		return uses(x)
	case "type":
		return typeDefinition(x, at)
	case "inst":
		return instDefinition(x, at)
	case "mode":
		if isApp(x, "==", 2) {
			return modeDefinition(x, at)
		}
		return modeDeclaration(x, at)
	case "typeclass":
		return class(x, at)
	case "instance":
		return instance(x, at)
	case "promise":
		return law(x, at)
	}
	panic(api.Fault{At: d.At, Code: api.ErrSyntax})
}

// section returns the item with which a section begins.
func section(public bool) item {
	return item{early: true, put: func(r *reader) {
		m := r.top()
		m.begun, m.public = true, public
	}}
}

func uses(t api.Term) item {
	var list []api.Use
	for x := range chain(t, ",") {
		list = append(list, api.Use{Name: moduleName(x), At: x.At})
	}
	return adding(api.Fault{}, func(m *api.Module, public bool) {
		for _, u := range list {
			u.Public = public
			m.Uses = append(m.Uses, u)
		}
	})
}

func instDefinition(t api.Term, at int) item {
	mustApp(t, "==", 2)
	x := api.InstDef{Name: definedName(t.Args[0]), Body: copied(t.Args[1], kept), At: at}
	return adding(api.Fault{}, func(m *api.Module, public bool) {
		x.Public = public
		m.Insts = append(m.Insts, x)
	})
}

func modeDefinition(t api.Term, at int) item {
	x := api.ModeDef{Name: definedName(t.Args[0]), At: at}
	mustApp(t.Args[1], ">>", 2)
	x.From, x.To = copied(t.Args[1].Args[0], kept), copied(t.Args[1].Args[1], kept)
	return adding(api.Fault{}, func(m *api.Module, public bool) {
		x.Public = public
		m.Modes = append(m.Modes, x)
	})
}

// definedName returns the name that a definition without parameters gives.
func definedName(t api.Term) string {
	must(isAtom(t) && isWord(t.Name), t)
	return t.Name
}

func law(t api.Term, at int) item {
	must(isApp(t, "assoc", 1) || isApp(t, "commut", 1), t)
	x := api.Law{Kind: api.LAssoc, Name: predicateName(t.Args[0]), At: at}
	if t.Name == "commut" {
		x.Kind = api.LCommut
	}
	return adding(api.Fault{}, func(m *api.Module, _ bool) { m.Laws = append(m.Laws, x) })
}

// predicateName returns the name of a predicate or a function.
func predicateName(t api.Term) string {
	must(isAtom(t) && isPlain(t.Name), t)
	return t.Name
}

// needs returns the needs of a term.
func needs(t api.Term) []api.Need {
	var list []api.Need
	for x := range chain(t, ",") {
		list = append(list, need(x))
	}
	return list
}

// need returns a class with types.
func need(t api.Term) api.Need {
	must(t.Kind == api.TApp && isDotted(t.Name) && len(t.Args) > 0, t)
	return api.Need{Class: t.Name, Types: mapped(t.Args, readType)}
}

// unless returns a fault, unless something holds.
func unless(holds bool, at int, code api.Errno) api.Fault {
	if holds {
		return api.Fault{}
	}
	return api.Fault{At: at, Code: code}
}

// firstOf returns the first of several faults, if there is one.
func firstOf(l ...api.Fault) api.Fault {
	for _, f := range l {
		if f.Code != api.OK {
			return f
		}
	}
	return api.Fault{}
}

// twice returns the fault of the first term whose Name one before it has.
func twice(l []api.Term) api.Fault {
	seen := map[string]bool{}
	for _, t := range l {
		if seen[t.Name] {
			return api.Fault{At: t.At, Code: api.ErrTwice}
		}
		seen[t.Name] = true
	}
	return api.Fault{}
}
