package steps

import (
	"slices"

	"cinnabar/api"
)

// What is copied into new memory.

// declarations returns a module without its clauses and the modules in it.
func declarations(m api.Module) api.Module {
	m.Uses = slices.Clone(m.Uses)
	m.Types = mapped(m.Types, copiedTypeDef)
	m.Insts = mapped(m.Insts, copiedInst)
	m.Modes = mapped(m.Modes, copiedMode)
	m.Decls = mapped(m.Decls, copiedDecl)
	m.Classes = mapped(m.Classes, copiedClass)
	m.Instances = mapped(m.Instances, copiedInstance)
	m.Laws = slices.Clone(m.Laws)
	m.Clauses, m.Kids = nil, nil
	return m
}

func copiedTerms(l []api.Term) []api.Term {
	return mapped(l, func(t api.Term) api.Term { return copied(t, kept) })
}

func copiedType(y api.Type) api.Type {
	y.Args = copiedTypes(y.Args)
	return y
}

func copiedTypes(l []api.Type) []api.Type { return mapped(l, copiedType) }

func copiedCtor(x api.Ctor) api.Ctor {
	x.Args, x.Fields = copiedTypes(x.Args), slices.Clone(x.Fields)
	return x
}

func copiedTypeDef(x api.TypeDef) api.TypeDef {
	x.Params, x.Ctors, x.Same = slices.Clone(x.Params), mapped(x.Ctors, copiedCtor), copiedType(x.Same)
	return x
}

func copiedInst(x api.InstDef) api.InstDef {
	x.Body = copied(x.Body, kept)
	return x
}

func copiedMode(x api.ModeDef) api.ModeDef {
	x.From, x.To = copied(x.From, kept), copied(x.To, kept)
	return x
}

func copiedNeed(x api.Need) api.Need {
	x.Types = copiedTypes(x.Types)
	return x
}

func copiedModing(x api.Moding) api.Moding {
	x.Args = copiedTerms(x.Args)
	return x
}

func copiedDecl(x api.Decl) api.Decl {
	x.Types, x.Needs, x.Modes = copiedTypes(x.Types), mapped(x.Needs, copiedNeed), mapped(x.Modes, copiedModing)
	return x
}

func copiedClass(x api.Class) api.Class {
	x.Params, x.Supers, x.Methods = slices.Clone(x.Params), mapped(x.Supers, copiedNeed), mapped(x.Methods, copiedDecl)
	return x
}

func copiedInstance(x api.Instance) api.Instance {
	x.Types, x.Needs, x.Impls = copiedTypes(x.Types), mapped(x.Needs, copiedNeed), slices.Clone(x.Impls)
	return x
}
