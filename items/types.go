package items

import "cinnabar/api"

// Type returns the type that a term is.
func Type(t api.Term) (api.Type, api.Errno) {
	var y api.Type
	f := caught(func() { y = readType(t) })
	return y, f.Code
}

// TypeTerm returns the term that is a type.
func TypeTerm(t api.Type) (api.Term, api.Errno) {
	if e := checkType(t); e != api.OK {
		return api.Term{}, e
	}
	return typeTerm(t), api.OK
}

// readType returns the type that a term must be.
func readType(t api.Term) api.Type {
	variable := t.Kind == api.TVar && isTypeVariable(t.Name) && len(t.Args) == 0
	named := t.Kind == api.TApp && isDotted(t.Name)
	must((variable || named) && t.Num == 0, t)
	y := api.Type{Kind: api.YCon, Name: t.Name}
	switch {
	case variable:
		y.Kind = api.YVar
	case t.Name == "pred":
		y = api.Type{Kind: api.YPred}
	}
	y.Args = mapped(t.Args, readType)
	return y
}

// checkType says why a type is read of no term; of its parts the first one in preorder decides.
func checkType(t api.Type) api.Errno {
	var right bool
	switch t.Kind {
	case api.YVar:
		right = isTypeVariable(t.Name) && len(t.Args) == 0
	case api.YCon:
		right = isDotted(t.Name) && t.Name != "pred"
	case api.YPred:
		right = t.Name == ""
	default:
		return api.ErrKind
	}
	if !right {
		return api.ErrForm
	}
	for _, x := range t.Args {
		if e := checkType(x); e != api.OK {
			return e
		}
	}
	return api.OK
}

// typeTerm returns the term of a type, also of one that is wrong, as far as there is one.
func typeTerm(t api.Type) api.Term {
	args := mapped(t.Args, typeTerm)
	switch t.Kind {
	case api.YVar:
		return api.Term{Kind: api.TVar, Name: t.Name, Args: args}
	case api.YCon:
		return app(t.Name, args...)
	case api.YPred:
		return app("pred", args...)
	}
	return noTerm()
}
