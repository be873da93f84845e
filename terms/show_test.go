package terms

import (
	"strconv"
	"strings"

	"cinnabar/api"
	"cinnabar/tokens"
)

// show writes a term without operators: names as they are, with arguments in brackets.
func show(t api.Term) string { return written(t, false) }

// showPlaces writes a term like show, each part with its place behind it.
func showPlaces(t api.Term) string { return written(t, true) }

func written(t api.Term, places bool) string {
	var b strings.Builder
	switch t.Kind {
	case api.TInt:
		b.WriteString(strconv.FormatInt(t.Num, 10))
	case api.TChar:
		b.WriteString("0'" + string(rune(t.Num)))
	case api.TText:
		b.WriteString(strconv.Quote(t.Name))
	case api.TApp, api.TVar:
		b.WriteString(t.Name)
	default:
		b.WriteString("?" + strconv.Itoa(t.Kind))
	}
	if places {
		b.WriteString("@" + strconv.Itoa(t.At))
	}
	for i, x := range t.Args {
		b.WriteString([]string{"(", ", "}[min(i, 1)] + written(x, places))
	}
	if len(t.Args) > 0 {
		b.WriteString(")")
	}
	return b.String()
}

// oneOf returns the one term of a text.
func oneOf(text string) (api.Term, api.Fault) {
	l, f := tokens.Tokens(text)
	if f.Code != api.OK {
		return api.Term{}, f
	}
	return One(l)
}

// Makers of tokens and terms without places.

func tok(kind int, text string) api.Token { return api.Token{Kind: kind, Text: text} }

func name(s string) api.Token  { return tok(api.TokName, s) }
func punc(s string) api.Token  { return tok(api.TokPunct, s) }
func stop() api.Token          { return tok(api.TokStop, ".") }
func end(at int) api.Token     { return api.Token{Kind: api.TokEnd, At: at} }
func variab(s string) api.Term { return api.Term{Kind: api.TVar, Name: s} }
func num(n int64) api.Term     { return api.Term{Kind: api.TInt, Num: n} }
func char(n int64) api.Term    { return api.Term{Kind: api.TChar, Num: n} }
func str(s string) api.Term    { return api.Term{Kind: api.TText, Name: s} }

func app(s string, args ...api.Term) api.Term {
	return api.Term{Kind: api.TApp, Name: s, Args: args}
}

// nest puts a term into applications of f.
func nest(n int, t api.Term) api.Term {
	for range n {
		t = app("f", t)
	}
	return t
}

// chain makes applications of a name to n atoms and an atom behind them, each one the second argument of that before.
func chain(s string, n int) api.Term {
	t := app("z")
	for range n {
		t = app(s, app("a"), t)
	}
	return t
}

// some returns n atoms.
func some(n int) []api.Term {
	l := make([]api.Term, n)
	for i := range l {
		l[i] = app("a")
	}
	return l
}
