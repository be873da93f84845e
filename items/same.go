package items

import (
	"slices"

	"cinnabar/api"
	"cinnabar/terms"
)

// sameUnit reports whether two modules are equal but for places, and for the order of what is public and what is not.
func sameUnit(a, b Unit) bool {
	return sameModule(a.Module, b.Module) && slices.EqualFunc(a.Clauses, b.Clauses, terms.Same) && sameParts(a.Kids, b.Kids, isPublicKid, sameUnit)
}

func sameModule(a, b api.Module) bool {
	// The clauses and the modules in a module stand beside it.
	return a.Name == b.Name && a.Public == b.Public && len(a.Clauses) == len(b.Clauses) && len(a.Kids) == len(b.Kids) &&
		sameParts(a.Uses, b.Uses, isPublicUse, sameUse) &&
		sameParts(a.Types, b.Types, isPublicType, sameTypeDef) &&
		sameParts(a.Insts, b.Insts, isPublicInst, sameInst) &&
		sameParts(a.Modes, b.Modes, isPublicMode, sameMode) &&
		sameParts(a.Decls, b.Decls, isPublicDecl, sameDecl) &&
		sameParts(a.Classes, b.Classes, isPublicClass, sameClass) &&
		sameParts(a.Instances, b.Instances, isPublicInstance, sameInstance) &&
		slices.EqualFunc(a.Laws, b.Laws, sameLaw)
}

// sameParts reports whether two lists have the same public elements, and the same other ones.
func sameParts[X any](a, b []X, isPublic func(X) bool, same func(X, X) bool) bool {
	return slices.EqualFunc(publicFirst(a, isPublic), publicFirst(b, isPublic), same)
}

// publicFirst returns a list in which the public elements stand in front of the others.
func publicFirst[X any](l []X, isPublic func(X) bool) []X {
	var public, others []X
	for _, x := range l {
		if isPublic(x) {
			public = append(public, x)
		} else {
			others = append(others, x)
		}
	}
	return append(public, others...)
}

func isPublicUse(x api.Use) bool           { return x.Public }
func isPublicType(x api.TypeDef) bool      { return x.Public }
func isPublicInst(x api.InstDef) bool      { return x.Public }
func isPublicMode(x api.ModeDef) bool      { return x.Public }
func isPublicDecl(x api.Decl) bool         { return x.Public }
func isPublicClass(x api.Class) bool       { return x.Public }
func isPublicInstance(x api.Instance) bool { return x.Public }
func isPublicKid(x Unit) bool              { return x.Module.Public }

func sameUse(a, b api.Use) bool { return a.Name == b.Name && a.Public == b.Public }

func sameType(a, b api.Type) bool {
	return a.Kind == b.Kind && a.Name == b.Name && slices.EqualFunc(a.Args, b.Args, sameType)
}

func sameTypeDef(a, b api.TypeDef) bool {
	return a.Name == b.Name && slices.Equal(a.Params, b.Params) && a.Kind == b.Kind && slices.EqualFunc(a.Ctors, b.Ctors, sameCtor) && sameType(a.Same, b.Same) && a.Public == b.Public
}

func sameCtor(a, b api.Ctor) bool {
	return a.Name == b.Name && slices.EqualFunc(a.Args, b.Args, sameType) && slices.Equal(a.Fields, b.Fields)
}

func sameInst(a, b api.InstDef) bool {
	return a.Name == b.Name && terms.Same(a.Body, b.Body) && a.Public == b.Public
}

func sameMode(a, b api.ModeDef) bool {
	return a.Name == b.Name && terms.Same(a.From, b.From) && terms.Same(a.To, b.To) && a.Public == b.Public
}

func sameNeed(a, b api.Need) bool {
	return a.Class == b.Class && slices.EqualFunc(a.Types, b.Types, sameType)
}

func sameModing(a, b api.Moding) bool {
	return a.Det == b.Det && slices.EqualFunc(a.Args, b.Args, terms.Same)
}

func sameDecl(a, b api.Decl) bool {
	return a.Name == b.Name && a.Func == b.Func && slices.EqualFunc(a.Types, b.Types, sameType) && slices.EqualFunc(a.Needs, b.Needs, sameNeed) && slices.EqualFunc(a.Modes, b.Modes, sameModing) && a.Public == b.Public
}

func sameClass(a, b api.Class) bool {
	return a.Name == b.Name && slices.Equal(a.Params, b.Params) && slices.EqualFunc(a.Supers, b.Supers, sameNeed) && slices.EqualFunc(a.Methods, b.Methods, sameDecl) && a.Public == b.Public
}

func sameInstance(a, b api.Instance) bool {
	return a.Class == b.Class && slices.EqualFunc(a.Types, b.Types, sameType) && slices.EqualFunc(a.Needs, b.Needs, sameNeed) && slices.Equal(a.Impls, b.Impls) && a.Public == b.Public
}

func sameLaw(a, b api.Law) bool { return a.Kind == b.Kind && a.Name == b.Name }
