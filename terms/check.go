package terms

import (
	"cinnabar/api"
	"cinnabar/tokens"
)

// Check says what is wrong with a term; OK if it may come from a text.
func Check(t api.Term) api.Errno {
	if Depth(t) > api.MaxNest {
		return api.ErrLimit
	}
	for _, x := range all(t) {
		if e := checkOne(x); e != api.OK {
			return e
		}
	}
	return api.OK
}

// checkOne checks a term without those in it.
func checkOne(t api.Term) api.Errno {
	if t.Kind < api.TVar || t.Kind > api.TApp {
		return api.ErrKind
	}
	if !hasFields(t) {
		return api.ErrForm
	}
	switch t.Kind {
	case api.TVar:
		return tokens.Check(api.Token{Kind: api.TokVar, Text: t.Name})
	case api.TInt:
		if t.Num < -api.MaxInt || t.Num > api.MaxInt {
			return api.ErrRange
		}
	case api.TChar:
		if !isCharacter(t.Num) {
			return api.ErrRange
		}
	case api.TText:
		for i := range len(t.Name) {
			if !isCharacter(int64(t.Name[i])) {
				return api.ErrRange
			}
		}
	case api.TApp:
		return checkApplication(t)
	}
	return api.OK
}

// hasFields reports whether the fields that the kind of a term does not use are zero.
func hasFields(t api.Term) bool {
	named := t.Kind != api.TInt && t.Kind != api.TChar
	app := t.Kind == api.TApp
	return (named || t.Name == "") && (!named || t.Num == 0) && (app || len(t.Args) == 0)
}

// isCharacter reports whether a text may have this character.
func isCharacter(n int64) bool {
	return n == '\t' || n == '\n' || n >= 32 && n <= 126
}

func checkApplication(t api.Term) api.Errno {
	// The tokens permit as names just what terms do: what stands in apostrophes has no point either.
	e := tokens.Check(api.Token{Kind: api.TokName, Text: t.Name})
	if e == api.ErrForm || !suits(t.Name, t.Args) {
		return api.ErrForm
	}
	if len(t.Args) > maxArgs(t.Name, t.Args) {
		return api.ErrLimit
	}
	return e
}

// suits reports whether a name may have these arguments, however many others may have.
func suits(name string, args []api.Term) bool {
	switch name {
	case "{}":
		return len(args) == 1
	case "[|]":
		return len(args) == 2
	case "[]":
		return len(args) == 0
	case "!.":
		return len(args) == 1 && args[0].Kind == api.TVar
	}
	return true
}

// maxArgs returns how many arguments an application may have that begins with these. The variable of a call is no argument where it is written in front of the bracket.
func maxArgs(name string, args []api.Term) int {
	if name == "call" && len(args) > 0 && args[0].Kind == api.TVar {
		return api.MaxArgs + 1
	}
	return api.MaxArgs
}
