package pretty

import (
	"strconv"
	"strings"
	"testing"

	"cinnabar/api"
	"cinnabar/terms"
	"cinnabar/tokens"
)

// The names of all operators.
const (
	infixNames    = ":- --> ---> == where else then ; -> & , <= is = \\= < > =< >= :: := ++ + - * / // mod >> ^"
	prefixNames   = ":- module end_module import_module type inst mode typeclass instance promise if \\+ not pred func - +"
	operatorNames = infixNames + " " + prefixNames + " some"
)

// Makers of terms.

func variab(s string) api.Term { return api.Term{Kind: api.TVar, Name: s} }
func num(n int64) api.Term     { return api.Term{Kind: api.TInt, Num: n} }
func char(n int64) api.Term    { return api.Term{Kind: api.TChar, Num: n} }
func str(s string) api.Term    { return api.Term{Kind: api.TText, Name: s} }

func app(s string, args ...api.Term) api.Term {
	return api.Term{Kind: api.TApp, Name: s, Args: args}
}

// chain makes applications of a name to n atoms and an atom behind them, each one the second argument of that before.
func chain(s string, n int) api.Term {
	t := app("z")
	for range n {
		t = app(s, app("a"), t)
	}
	return t
}

// some returns n atoms.
func some(n int) []api.Term {
	l := make([]api.Term, n)
	for i := range l {
		l[i] = app("a")
	}
	return l
}

// readOne returns the one term of a text without a stop.
func readOne(text string) (api.Term, api.Fault) {
	l, f := tokens.Tokens(text)
	if f.Code != api.OK {
		return api.Term{}, f
	}
	return terms.One(l)
}

// must returns the one term of a text that is right.
func must(t *testing.T, text string) api.Term {
	t.Helper()
	x, f := readOne(text)
	if f.Code != api.OK {
		t.Fatalf("%q: %v", text, f)
	}
	return x
}

// wantTerm checks how a term is written where m is permitted.
func wantTerm(t *testing.T, x api.Term, m int, want string) {
	t.Helper()
	if s, e := Term(x, m); e != api.OK || s != want {
		t.Errorf("%s, %d: %q %v, not %q", show(x), m, s, e, want)
	}
}

// show writes a term without operators: names as they are, with arguments in brackets.
func show(t api.Term) string {
	s := t.Name
	switch t.Kind {
	case api.TInt:
		s = strconv.FormatInt(t.Num, 10)
	case api.TChar:
		s = "0'" + string(rune(t.Num))
	case api.TText:
		s = strconv.Quote(s)
	}
	if len(t.Args) == 0 {
		return s
	}
	var args []string
	for _, x := range t.Args {
		args = append(args, show(x))
	}
	return s + "(" + strings.Join(args, ", ") + ")"
}
