package terms

import (
	"slices"
	"strings"
	"testing"

	"cinnabar/api"
	"cinnabar/tokens"
)

// A plain reads tokens by nested calls, word by word as the chapter does: it is what the reader is compared with.
type plain struct {
	l  []api.Token
	at int
}

func (p *plain) next() api.Token {
	if p.at < len(p.l) {
		return p.l[p.at]
	}
	return api.Token{Kind: api.TokEnd, At: len(p.l)}
}

// behind returns the next token, and goes on.
func (p *plain) behind() api.Token {
	t := p.next()
	p.at++
	return t
}

func (p *plain) is(kind int, text string) bool {
	return p.next().Kind == kind && p.next().Text == text
}

func (p *plain) fail(code api.Errno) {
	if code == api.ErrSyntax && p.next().Kind == api.TokEnd {
		code = api.ErrEnd
	}
	panic(api.Fault{At: p.next().At, Code: code})
}

func (p *plain) must(text string) {
	if !p.is(api.TokPunct, text) {
		p.fail(api.ErrSyntax)
	}
	p.at++
}

func (p *plain) infix() (int, int, int) {
	t := p.next()
	if t.Kind == api.TokPunct && t.Text == "," || t.Kind == api.TokName && t.Text != "," {
		return Infix(t.Text)
	}
	return 0, 0, 0
}

// startsTerm reports whether the next token begins a term, as the chapter says for prefix operators.
func (p *plain) startsTerm() bool {
	t := p.next()
	switch t.Kind {
	case api.TokVar, api.TokInt, api.TokChar, api.TokText:
		return true
	case api.TokPunct:
		return t.Text == "(" || t.Text == "[" || t.Text == "{"
	case api.TokName:
		infix, _, _ := p.infix()
		prefix, _, _ := Prefix(t.Text)
		return infix == 0 || prefix > 0
	}
	return false
}

func (p *plain) term(m int) (api.Term, int) {
	t, priority := p.beginning(m)
	for {
		q, left, right := p.infix()
		if q == 0 || q > m || priority > left {
			return t, priority
		}
		o := p.behind()
		u, _ := p.term(right)
		t, priority = api.Term{Kind: api.TApp, Name: o.Text, Args: []api.Term{t, u}, At: o.At}, q
	}
}

func (p *plain) beginning(m int) (api.Term, int) {
	t := p.next()
	if t.Kind != api.TokName {
		return p.other(), 0
	}
	p.at++
	if t.Text == "-" && p.next().Kind == api.TokInt {
		u := p.other()
		return api.Term{Kind: api.TInt, Num: -u.Num, At: t.At}, 0
	}
	q, right, two := Prefix(t.Text)
	if q > 0 && q <= m && p.startsTerm() {
		var l []api.Term
		if two {
			first, _ := p.term(0)
			l = append(l, first)
		}
		last, _ := p.term(right)
		return api.Term{Kind: api.TApp, Name: t.Text, Args: append(l, last), At: t.At}, q
	}
	p.at--
	return p.other(), 0
}

// other reads what begins with no prefix operator.
func (p *plain) other() api.Term {
	t := p.behind()
	switch t.Kind {
	case api.TokVar:
		x := api.Term{Kind: api.TVar, Name: t.Text, At: t.At}
		if !p.is(api.TokPunct, "((") {
			return x
		}
		return api.Term{Kind: api.TApp, Name: "call", Args: p.arguments("call", x), At: t.At}
	case api.TokInt:
		n := int64(0)
		for i := range len(t.Text) {
			n = 10*n + int64(t.Text[i]-'0')
		}
		return api.Term{Kind: api.TInt, Num: n, At: t.At}
	case api.TokChar:
		return api.Term{Kind: api.TChar, Num: int64(t.Text[0]), At: t.At}
	case api.TokText:
		return api.Term{Kind: api.TText, Name: t.Text, At: t.At}
	case api.TokName:
		return p.named(t)
	}
	p.at--
	if !p.startsTerm() {
		p.fail(api.ErrSyntax)
	}
	p.at++
	switch t.Text {
	case "(":
		x, _ := p.term(1200)
		p.must(")")
		return x
	case "{":
		x, _ := p.term(1200)
		p.must("}")
		return api.Term{Kind: api.TApp, Name: "{}", Args: []api.Term{x}, At: t.At}
	}
	if p.is(api.TokPunct, "]") {
		p.at++
		return api.Term{Kind: api.TApp, Name: "[]", At: t.At}
	}
	return p.elements()
}

func (p *plain) named(t api.Token) api.Term {
	x := api.Term{Kind: api.TApp, Name: t.Text, At: t.At}
	if slices.Contains([]string{"!", "!.", "!:"}, t.Text) && p.next().Kind == api.TokVar {
		v := p.behind()
		x.Args = []api.Term{{Kind: api.TVar, Name: v.Text, At: v.At}}
		return x
	}
	if p.is(api.TokPunct, "((") {
		x.Args = p.arguments(t.Text)
	}
	n := len(x.Args)
	if t.Text == "{}" && n != 1 || t.Text == "[|]" && n != 2 || t.Text == "[]" && n != 0 || t.Text == "!." && (n != 1 || x.Args[0].Kind != api.TVar) {
		panic(api.Fault{At: t.At, Code: api.ErrSyntax})
	}
	return x
}

func (p *plain) arguments(name string, l ...api.Term) []api.Term {
	for {
		p.at++
		most := 32
		if name == "call" && len(l) > 0 && l[0].Kind == api.TVar {
			most = 33
		}
		if len(l) == most && (p.startsTerm() || p.next().Kind == api.TokName) {
			p.fail(api.ErrLimit)
		}
		x, _ := p.term(999)
		l = append(l, x)
		if !p.is(api.TokPunct, ",") {
			p.must(")")
			return l
		}
	}
}

// elements reads a list behind its bracket, or behind a comma.
func (p *plain) elements() api.Term {
	at := p.next().At
	x, _ := p.term(999)
	l := api.Term{Kind: api.TApp, Name: "[|]", At: at}
	switch {
	case p.is(api.TokPunct, ","):
		p.at++
		l.Args = []api.Term{x, p.elements()}
		return l
	case p.is(api.TokPunct, "|"):
		p.at++
		y, _ := p.term(999)
		l.Args = []api.Term{x, y}
	default:
		l.Args = []api.Term{x, {Kind: api.TApp, Name: "[]", At: p.next().At}}
	}
	p.must("]")
	return l
}

// plainOne is One, read plainly.
func plainOne(l []api.Token) (t api.Term, f api.Fault) {
	defer func() {
		if g, ok := recover().(api.Fault); ok {
			t, f = api.Term{}, g
		}
	}()
	p := plain{l: l}
	t, _ = p.term(1200)
	if p.at < len(l) {
		p.fail(api.ErrSyntax)
	}
	return t, api.Fault{}
}

// lists yields all lists of at most a number of these tokens, each with its index as its place.
func lists(some []api.Token, most int, yield func([]api.Token)) {
	list := make([]api.Token, 0, most)
	var longer func()
	longer = func() {
		yield(list)
		if len(list) == most {
			return
		}
		for _, t := range some {
			t.At = len(list)
			list = append(list, t)
			longer()
			list = list[:t.At]
		}
	}
	longer()
}

// tellingLists yields lists of tokens in which those that need each other meet.
func tellingLists(yield func([]api.Token)) {
	x, one := tok(api.TokVar, "X"), tok(api.TokInt, "1")
	lists([]api.Token{
		name("a"), name("-"), name("="), name(":-"), name("some"), name("!"), name("!."), name("[]"), name("{}"), name("[|]"), name(","), x, one, tok(api.TokChar, "("), tok(api.TokText, "="),
		punc("(("), punc("("), punc(")"), punc("["), punc("]"), punc("{"), punc("}"), punc(","), punc("|"), stop(),
	}, 3, yield)
	lists([]api.Token{name("a"), name("-"), one, punc("(("), punc("("), punc(")"), punc(","), x}, 5, yield)
	lists([]api.Token{name("a"), punc("["), punc("]"), punc("|"), punc(","), name("-"), one}, 6, yield)
	lists([]api.Token{name("a"), name("-"), name(":-"), name("++"), name("\\+"), name("some"), name("=")}, 6, yield)
	lists([]api.Token{name("[|]"), name("{}"), name("call"), punc("(("), punc(")"), punc(","), x}, 6, yield)
	lists([]api.Token{name("if"), name("then"), name("else"), name("a"), punc("{"), punc("}"), punc("(")}, 6, yield)
}

// identical reports whether two terms are equal, places included.
func identical(a, b api.Term) bool {
	return a.Kind == b.Kind && a.Name == b.Name && a.Num == b.Num && a.At == b.At && slices.EqualFunc(a.Args, b.Args, identical)
}

// P2.1: the reader reads what plain calls read, with the same places and faults.
func TestReaderIsPlain(t *testing.T) {
	tellingLists(func(l []api.Token) {
		got, f := One(append(slices.Clone(l), end(len(l))))
		want, g := plainOne(l)
		if f != g || !identical(got, want) {
			t.Errorf("%v: %s %v, not %s %v", l, showPlaces(got), f, showPlaces(want), g)
		}
	})
}

// P2.3: each term is right; in brackets it is the same term, whose priority is 0.
func TestTermsAreRight(t *testing.T) {
	tellingLists(func(l []api.Token) {
		got, f := One(l)
		if f.Code != api.OK {
			if !Same(got, api.Term{}) || got.At != 0 {
				t.Error(l, got, f)
			}
			return
		}
		if Check(got) != api.OK {
			t.Error(l, show(got), Check(got))
		}
		in := slices.Concat([]api.Token{punc("(")}, l, []api.Token{punc(")")})
		again, f := One(in)
		if f.Code != api.OK || !Same(again, got) {
			t.Error(l, show(again), f)
		}
		// Next to the operator with the least sides nothing but priority 0 can stand.
		again, f = One(slices.Concat(in, []api.Token{name("^")}, in))
		if f.Code != api.OK || !Same(again, app("^", got, got)) {
			t.Error(l, show(again), f)
		}
	})
}

// P2.3: names in apostrophes are the same operators and names as without them.
func TestApostrophes(t *testing.T) {
	for _, text := range []string{
		"a :- b -> c ; d.", ":- a.", "- 1.", "a - 1.", "- a + b * c mod d.", "\\+ a = b.", "not a.", "some [X] p.", "if a then b else c.", "-(a).", "!X.", "! .", ":- type t ---> a.", "f(-).", "a ^ b := c.", "- = + .", "p.q(a).",
	} {
		l, f := tokens.Tokens(text)
		if f.Code != api.OK {
			t.Fatal(text, f)
		}
		var marked strings.Builder
		for i, k := range l[:len(l)-1] {
			s := text[k.At:l[i+1].At]
			if k.Kind == api.TokName && !strings.Contains(k.Text, ".") {
				s = "'" + strings.ReplaceAll(k.Text, "\\", "\\\\") + "'" + s[len(k.Text):]
			}
			marked.WriteString(s)
		}
		want, f := Terms(l)
		got, g := Text(marked.String())
		if f.Code != api.OK || g.Code != api.OK || !slices.EqualFunc(got, want, Same) {
			t.Errorf("%s %s: %v %v %v %v", text, marked.String(), want, f, got, g)
		}
	}
}

// P2.3: the terms of two texts, one behind the other, are those of both.
func TestTextsInOrder(t *testing.T) {
	texts := []string{"", "a.", "a :- b.\n", "- .", "- . % c\n", "[a | b]. f(X).\n", "1.", "X.", "(a).", "!X.", "f(-) .", ":- a.", "if . some . ", "!."}
	for _, a := range texts {
		for _, b := range texts {
			x, f := Text(a)
			y, g := Text(b)
			z, h := Text(a + "\n" + b)
			if f.Code != api.OK || g.Code != api.OK || h.Code != api.OK || !slices.EqualFunc(z, append(x, y...), Same) {
				t.Errorf("%q %q: %v %v %v", a, b, f, g, h)
			}
		}
	}
	// What comes first decides, whatever follows.
	for _, a := range []string{"a b. ", "f(a. ", "(. ", "a = . "} {
		_, f := Text(a + "c.")
		for _, b := range texts {
			if _, g := Text(a + "c. " + b); f.Code != api.ErrSyntax || g != f {
				t.Errorf("%q %q: %v %v", a, b, f, g)
			}
		}
	}
}
