package steps

import (
	"slices"

	"cinnabar/api"
	"cinnabar/terms"
)

// What is equal but for places.

func sameClause(a, b api.Clause) bool {
	return a.Name == b.Name && a.Func == b.Func && sameTerms(a.Head, b.Head) && sameStep(a.Body, b.Body) && slices.EqualFunc(a.Lams, b.Lams, sameLam)
}

func sameTerms(a, b []api.Term) bool { return slices.EqualFunc(a, b, terms.Same) }

func sameStep(a, b api.Step) bool {
	return a.Kind == b.Kind && a.Name == b.Name && sameTerms(a.Args, b.Args) && slices.Equal(a.Vars, b.Vars) && slices.EqualFunc(a.Kids, b.Kids, sameStep)
}

func sameLam(a, b api.Lam) bool {
	return sameTerms(a.Args, b.Args) && sameTerms(a.Modes, b.Modes) && a.Det == b.Det && sameStep(a.Body, b.Body)
}
