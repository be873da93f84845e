package items

import (
	"strconv"
	"strings"

	"cinnabar/api"
	"cinnabar/terms"
)

// Makers of terms without places.

func app(name string, args ...api.Term) api.Term {
	return api.Term{Kind: api.TApp, Name: name, Args: args}
}

// bare returns a term without its places.
func bare(t api.Term) api.Term { return copied(t, cleared) }

// noTerm stands where there is no term of what a module has: it is right, but Make refuses it there.
func noTerm() api.Term { return api.Term{Kind: api.TInt} }

// joined puts an infix operator between terms, nested to the right.
func joined(operator string, l []api.Term) api.Term {
	if len(l) == 0 {
		return noTerm()
	}
	last := len(l) - 1
	t := l[last]
	for i := last - 1; i >= 0; i-- {
		t = app(operator, l[i], t)
	}
	return t
}

// listOf returns the term of a list.
func listOf(l []api.Term) api.Term { return joined("[|]", append(l, app("[]"))) }

// A writer lists the items of modules.
type writer struct{ items []api.Term }

// itemsOf returns the items of a module, also of one that no items make, as far as there are terms of it.
func itemsOf(u Unit) []api.Term {
	var w writer
	w.unit(u)
	return w.items
}

// declare adds a declaration.
func (w *writer) declare(t api.Term) { w.items = append(w.items, app(":-", t)) }

// unit adds a module.
func (w *writer) unit(u Unit) {
	w.declare(app("module", app(u.Module.Name)))
	w.section("interface", u, true)
	w.section("implementation", u, false)
	w.declare(app("end_module", app(u.Module.Name)))
}

// section adds what is public in a module, or all that is not, behind the beginning of a section, if there is anything.
func (w *writer) section(name string, u Unit, public bool) {
	before := len(w.items)
	w.declare(app(name))
	w.declarations(u.Module, public)
	for _, k := range u.Kids {
		if k.Module.Public == public {
			w.unit(k)
		}
	}
	if !public {
		for _, t := range u.Clauses {
			w.items = append(w.items, bare(t))
		}
	}
	if len(w.items) == before+1 {
		w.items = w.items[:before]
	}
}

// declarations adds those of a module that are public, or all that are not.
func (w *writer) declarations(m api.Module, public bool) {
	each(w, m.Uses, public, isPublicUse, useTerm)
	each(w, m.Types, public, isPublicType, typeDefTerm)
	each(w, m.Insts, public, isPublicInst, instTerm)
	each(w, m.Modes, public, isPublicMode, modeTerm)
	for _, d := range m.Decls {
		if d.Public == public {
			w.decl(d)
		}
	}
	each(w, m.Classes, public, isPublicClass, classTerm)
	each(w, m.Instances, public, isPublicInstance, instanceTerm)
	if !public {
		for _, x := range m.Laws {
			w.declare(lawTerm(x))
		}
	}
}

// each declares the elements of a list that are public, or those that are not.
func each[X any](w *writer, l []X, public bool, isPublic func(X) bool, termOf func(X) api.Term) {
	for _, x := range l {
		if isPublic(x) == public {
			w.declare(termOf(x))
		}
	}
}

// decl adds a declaration of a predicate or a function, and its modes behind it, unless it has its one mode itself.
func (w *writer) decl(x api.Decl) {
	w.declare(restricted(declTerm(x), x.Needs))
	if len(x.Modes) < 2 {
		return
	}
	for _, m := range x.Modes {
		call := callTerm(x, mapped(m.Args, bare))
		w.declare(app("mode", app("is", call, app(DetName(m.Det)))))
	}
}

func useTerm(x api.Use) api.Term { return app("import_module", app(x.Name)) }

func typeDefTerm(x api.TypeDef) api.Term {
	t := headTerm(x.Name, x.Params)
	switch x.Kind {
	case api.DUnion:
		t = app("--->", t, joined(";", mapped(x.Ctors, ctorTerm)))
	case api.DSame:
		t = app("==", t, typeTerm(x.Same))
	case api.DAbstract:
	default:
		t = noTerm()
	}
	return app("type", t)
}

// headTerm returns a name with variables.
func headTerm(name string, params []string) api.Term {
	return app(name, mapped(params, func(p string) api.Term { return api.Term{Kind: api.TVar, Name: p} })...)
}

func ctorTerm(x api.Ctor) api.Term {
	args := mapped(x.Args, typeTerm)
	for i, t := range args {
		if i < len(x.Fields) && x.Fields[i] != "" {
			args[i] = app("::", app(x.Fields[i]), t)
		}
	}
	return app(x.Name, args...)
}

func instTerm(x api.InstDef) api.Term {
	return app("inst", app("==", app(x.Name), bare(x.Body)))
}

func modeTerm(x api.ModeDef) api.Term {
	return app("mode", app("==", app(x.Name), app(">>", bare(x.From), bare(x.To))))
}

// declTerm returns the term of a declaration without needs, with its mode if it has just one.
func declTerm(x api.Decl) api.Term {
	args := mapped(x.Types, typeTerm)
	word := "pred"
	if x.Func {
		word = "func"
	}
	if len(x.Modes) != 1 {
		return app(word, callTerm(x, args))
	}
	m := x.Modes[0]
	for i := range min(len(args), len(m.Args)) {
		args[i] = app("::", args[i], bare(m.Args[i]))
	}
	return app(word, app("is", callTerm(x, args), app(DetName(m.Det))))
}

// callTerm returns a predicate with arguments, or a function with arguments and a result.
func callTerm(x api.Decl, args []api.Term) api.Term {
	last := len(args) - 1
	if !x.Func || last < 0 {
		return app(x.Name, args...)
	}
	return app("=", app(x.Name, args[:last:last]...), args[last])
}

// restricted puts needs behind a term, if there are any.
func restricted(t api.Term, needs []api.Need) api.Term {
	if len(needs) == 0 {
		return t
	}
	return app("<=", t, joined(",", mapped(needs, needTerm)))
}

func needTerm(x api.Need) api.Term { return app(x.Class, mapped(x.Types, typeTerm)...) }

func classTerm(x api.Class) api.Term {
	head := restricted(headTerm(x.Name, x.Params), x.Supers)
	return app("typeclass", app("where", head, listOf(mapped(x.Methods, declTerm))))
}

func instanceTerm(x api.Instance) api.Term {
	head := app(x.Class, mapped(x.Types, typeTerm)...)
	// Without where, a class of this name would be read as one.
	misread := isApp(head, "where", 2) && len(x.Needs) == 0
	t := restricted(head, x.Needs)
	if len(x.Impls) > 0 || misread {
		t = app("where", t, listOf(mapped(x.Impls, implTerm)))
	}
	return app("instance", t)
}

func lawTerm(x api.Law) api.Term {
	t := noTerm()
	switch x.Kind {
	case api.LAssoc:
		t = app("assoc", app(x.Name))
	case api.LCommut:
		t = app("commut", app(x.Name))
	}
	return app("promise", t)
}

// implTerm returns the term of an implementation's text. Names in apostrophes may have what divides the text: it is divided where the parts are right, if there is such a place, and otherwise at the first place.
func implTerm(s string) api.Term {
	found := noTerm()
	kind, rest, _ := strings.Cut(s, " ")
	for i := range len(rest) {
		t := implTermAt(kind, rest, i)
		if t.Kind != api.TApp {
			continue
		}
		if isImplTerm(t, s) {
			return t
		}
		if found.Kind != api.TApp {
			found = t
		}
		if i > api.MaxName {
			// From here on the first name is too long.
			break
		}
	}
	return found
}

// implTermAt returns the term of a text that is divided at the stroke with an index, if one stands there in front of a number.
func implTermAt(kind, rest string, i int) api.Term {
	if rest[i] != '/' {
		return noTerm()
	}
	end := i + 1
	for end < len(rest) && rest[end] >= '0' && rest[end] <= '9' {
		end++
	}
	n, err := strconv.ParseInt(rest[i+1:end], 10, 64)
	if err != nil || end == len(rest) || rest[end] != ' ' {
		return noTerm()
	}
	number := api.Term{Kind: api.TInt, Num: n}
	return app("is", app(kind, app("/", app(rest[:i]), number)), app(rest[end+1:]))
}

// isImplTerm reports whether a term is right and is read as this text.
func isImplTerm(t api.Term, text string) bool {
	read := ""
	caught(func() { read = implementation(t) })
	return read == text && terms.Check(t) == api.OK
}
