package items

import (
	"strconv"

	"cinnabar/api"
)

// typeDefinition returns the item that defines a type.
func typeDefinition(t api.Term, at int) item {
	head := t
	if isApp(t, "--->", 2) || isApp(t, "==", 2) {
		head = t.Args[0]
	}
	must(head.Kind == api.TApp, head)
	x := api.TypeDef{Name: head.Name, Params: params(head), Kind: api.DAbstract, At: at}
	var fields []api.Term
	switch {
	case isApp(t, "--->", 2):
		x.Kind = api.DUnion
		for c := range chain(t.Args[1], ";") {
			ctor, names := constructor(c)
			x.Ctors = append(x.Ctors, ctor)
			fields = append(fields, names...)
		}
	case isApp(t, "==", 2):
		x.Kind, x.Same = api.DSame, readType(t.Args[1])
	}
	fault := firstOf(twice(head.Args), twice(fields), unless(len(x.Ctors) <= api.MaxParts && len(x.Params) <= api.MaxArgs, at, api.ErrLimit))
	return adding(fault, func(m *api.Module, public bool) {
		x.Public = public
		m.Types = append(m.Types, x)
	})
}

// params returns the variables in the head of the definition of a type or a class.
func params(head api.Term) []string {
	must(isWord(head.Name), head)
	return mapped(head.Args, func(x api.Term) string {
		must(x.Kind == api.TVar, x)
		return x.Name
	})
}

// constructor returns a constructor, and the terms of those of its fields that have names.
func constructor(t api.Term) (api.Ctor, []api.Term) {
	must(t.Kind == api.TApp && isPlain(t.Name), t)
	c := api.Ctor{Name: t.Name}
	var names []api.Term
	for _, x := range t.Args {
		field := ""
		if isApp(x, "::", 2) {
			field = definedName(x.Args[0])
			names = append(names, x.Args[0])
			x = x.Args[1]
		}
		c.Args = append(c.Args, readType(x))
		c.Fields = append(c.Fields, field)
	}
	return c, names
}

// class returns the item that declares a class.
func class(t api.Term, at int) item {
	mustApp(t, "where", 2)
	head, restricted := t.Args[0], isApp(t.Args[0], "<=", 2)
	if restricted {
		head = head.Args[0]
	}
	must(head.Kind == api.TApp && len(head.Args) > 0, head)
	x := api.Class{Name: head.Name, Params: params(head), At: at}
	if restricted {
		x.Supers = needs(t.Args[0].Args[1])
	}
	moded := true
	for method := range elements(t.Args[1]) {
		must(isPredOrFunc(method), method)
		d, ok := decl(method, method.At)
		x.Methods = append(x.Methods, d)
		moded = moded && ok
	}
	fault := firstOf(twice(head.Args), unless(moded, at, api.ErrMode), unless(len(x.Methods) <= api.MaxParts && len(x.Params) <= api.MaxArgs, at, api.ErrLimit))
	return adding(fault, func(m *api.Module, public bool) {
		x.Public = public
		for i := range x.Methods {
			x.Methods[i].Public = public
		}
		m.Classes = append(m.Classes, x)
	})
}

// instance returns the item that declares an instance. Needs may stand in it with and without implementations.
func instance(t api.Term, at int) item {
	head := t
	if isApp(t, "where", 2) {
		head = t.Args[0]
	}
	x := api.Instance{At: at}
	if isApp(head, "<=", 2) {
		n := need(head.Args[0])
		x.Class, x.Types, x.Needs = n.Class, n.Types, needs(head.Args[1])
	} else {
		n := need(head)
		x.Class, x.Types = n.Class, n.Types
	}
	if isApp(t, "where", 2) {
		for impl := range elements(t.Args[1]) {
			x.Impls = append(x.Impls, implementation(impl))
		}
	}
	return adding(api.Fault{}, func(m *api.Module, public bool) {
		x.Public = public
		m.Instances = append(m.Instances, x)
	})
}

// implementation returns the text of what implements a method.
func implementation(t api.Term) string {
	mustApp(t, "is", 2)
	method := t.Args[0]
	must(isPredOrFunc(method), method)
	mustApp(method.Args[0], "/", 2)
	name, number := method.Args[0].Args[0], method.Args[0].Args[1]
	s := method.Name + " " + predicateName(name) + "/"
	must(number.Kind == api.TInt && number.Num >= 0, number)
	return s + strconv.FormatInt(number.Num, 10) + " " + predicateName(t.Args[1])
}
