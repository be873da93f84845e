package steps

import (
	"slices"
	"strings"
	"testing"

	"cinnabar/api"
	"cinnabar/items"
	"cinnabar/pretty"
)

// P5.2: the terms of clauses, in which no place is left.
func TestTermsOfClauses(t *testing.T) {
	for _, x := range []row{
		{"p", "p"}, {"p :- true", "p"}, {"p(X, f(_), \"a\", 0'b, -1) :- q", "p(X, f(_), \"a\", 0'b, -1) :- q"}, {"f(X) = Y", "f(X) = Y"}, {"f = g :- q", "f = g :- q"}, {"X + Y = Z :- q", "X + Y = Z :- q"}, {"P(X) :- q", "P(X) :- q"}, {"'='(a) :- b", "'='(a) :- b"}, {"(a :- b) :- c", "(a :- b) :- c"}, {":- a", ":- a"},
		{"p :- a, b", "p :- a, b"}, {"p :- (a, b), c, true", "p :- a, b, c, true"}, {"p :- (a ; b) ; c ; fail", "p :- a ; b ; c ; fail"}, {"p :- false", "p :- fail"}, {"p :- (a & b) & c", "p :- a & b & c"}, {"p :- a, (b ; c & d), e", "p :- a, (b ; c & d), e"}, {"p :- true, true", "p :- true, true"},
		{"p :- a -> b ; c", "p :- if a then b else c"}, {"p :- a -> b", "p :- if a then b else fail"}, {"p :- if a, b then c ; d else e", "p :- if a, b then c ; d else e"}, {"p :- a -> b ; c -> d ; e", "p :- if a then b else if c then d else e"}, {"p :- (a -> b ; c) ; d", "p :- (if a then b else c) ; d"}, {"p :- a ; b -> c ; d", "p :- a ; (if b then c else d)"},
		{"p :- not a", "p :- \\+ a"}, {"p :- X \\= Y", "p :- \\+ X = Y"}, {"p :- some [X, Y] (a, b)", "p :- some [X, Y] (a, b)"}, {"p :- some [] a", "p :- some [] a"}, {"p :- X = f(Y)", "p :- X = f(Y)"},
		{"p :- X", "p :- call(X)"}, {"p :- P(X)", "p :- P(X)"}, {"p :- call(q(1), X)", "p :- call(q(1), X)"}, {"p :- call", "p :- call"}, {"p :- X < Y, a.b, '!', {c}, [d | E]", "p :- X < Y, a.b, '!', {c}, [d | E]"},
		// fields
		{"p(X ^ f) :- q(X ^ f ^ g)", "p(X ^ f) :- q(X ^ f ^ g)"}, {"p :- q((X ^ f) ^ g ^ h)", "p :- q(X ^ f ^ g ^ h)"}, {"p :- X = Y ^ f := 1", "p :- X = (Y ^ f := 1)"}, {"p :- q(X ^ f ^ g ^ h := 1)", "p :- q(X ^ f ^ g ^ h := 1)"}, {"p :- q((X ^ f) ^ g := 1)", "p :- q((X ^ f) ^ g := 1)"}, {"p :- q((X ^ f ^ g) ^ h ^ i := Y ^ j)", "p :- q((X ^ f ^ g) ^ h ^ i := Y ^ j)"}, {"p :- q(X ^ f := (X ^ f ^ g := 1))", "p :- q(X ^ f := (X ^ f ^ g := 1))"}, {"p :- q(X ^ f := ((X ^ f) ^ g := 1))", "p :- q(X ^ f ^ g := 1)"}, {"p :- q(X ^ f := ((Y ^ f) ^ g := 1))", "p :- q(X ^ f := ((Y ^ f) ^ g := 1))"}, {"p :- q((X ^ a := 1) ^ f ^ g := 2)", "p :- q((X ^ a := 1) ^ f ^ g := 2)"}, {"p :- q(h(X ^ a) ^ b)", "p :- q(h(X ^ a) ^ b)"},
		{"p :- q('^f'(X), '^f:='(X, 1), '^f'(X, 1), '^f:='(X), '^1'(X), '^'(X), '^F:='(X, Y), '^:='(X, Y))", "p :- q(X ^ f, X ^ f := 1, '^f'(X, 1), '^f:='(X), '^1'(X), '^'(X), '^F:='(X, Y), '^:='(X, Y))"}, {"p :- q(X ^ 1, X ^ Y, X ^ f ^ 1, X ^ Y ^ f, X := 1)", "p :- q(X ^ 1, X ^ Y, X ^ f ^ 1, X ^ (Y ^ f), X := 1)"}, {"p :- '^f'(X)", "p :- '^f'(X)"}, {"p :- X ^ f", "p :- X ^ f"},
		// lambda goals
		{"p :- q((pred(X::in, f(Y)::out(a)) is nondet :- r(X), s))", "p :- q((pred(X::in, f(Y)::out(a)) is nondet :- r(X), s))"}, {"p((pred(X::in) is det :- a -> b)) :- X = (pred(Y::in) is semidet :- r((pred(Z::in) is failure :- fail)))", "p((pred(X::in) is det :- if a then b else fail)) :- X = (pred(Y::in) is semidet :- r((pred(Z::in) is failure :- fail)))"}, {"p :- q((pred(X::in) is det :- a) ^ f ^ g := (pred(Y::in) is det :- b))", "p :- q((pred(X::in) is det :- a) ^ f ^ g := (pred(Y::in) is det :- b))"}, {"p :- q((pred((pred(Y::in) is det :- a)::in) is det :- b))", "p :- q((pred((pred(Y::in) is det :- a)::in) is det :- b))"},
	} {
		c := clauseOf(t, x.text)
		got, e := Term(c)
		want := bare(parse(t, x.want))
		if e != api.OK || !identical(got, want) {
			s, _ := pretty.Term(got, 1200)
			t.Errorf("%s: %s %v, not %s", x.text, s, e, x.want)
		}
		if again, f := Clause(got); f.Code != api.OK || clauseLine(again) != clauseLine(c) {
			t.Errorf("%s: %s", x.text, clauseLine(again))
		}
	}
}

// A clause that has one of everything.
const everything = "p((pred(X::in) is det :- a, b), Y ^ f) :- q(X, \"s\", 1), ( r ; s ), (t & u), ( if v then w else x ), \\+ y, some [Z] z(Z), X = Y, P(X), c((pred(V::in, W::out) is semidet :- d((pred(V::in) is det :- e))))"

// wantErrors checks the errors of clauses that are changed.
func wantErrors(t *testing.T, want api.Errno, text string, changes ...func(*api.Clause)) {
	t.Helper()
	for i, change := range changes {
		c := clauseOf(t, text)
		if _, e := Term(c); e != api.OK {
			t.Fatal(text, e)
		}
		change(&c)
		if x, e := Term(c); e != want || identical(x, api.Term{}) == (want == api.OK) {
			t.Errorf("%s, %d: %v, not %v (%s)", text, i, e, want, termLine(x))
		}
	}
}

// body returns a change of the body.
func body(change func(*api.Step)) func(*api.Clause) {
	return func(c *api.Clause) { change(&c.Body) }
}

// to returns a change of the body to another one.
func to(s api.Step) func(*api.Clause) { return body(func(b *api.Step) { *b = s }) }

// kid returns a change of one of the goals of the body.
func kid(i int, change func(*api.Step)) func(*api.Clause) {
	return body(func(b *api.Step) { change(&b.Kids[i]) })
}

func call(name string, args ...api.Term) api.Step {
	return api.Step{Kind: api.SCall, Name: name, Args: args}
}

// P5.2: clauses that are made of no term.
func TestFormErrors(t *testing.T) {
	a, b := call("a"), call("b")
	two := []api.Step{a, b}
	wantErrors(t, api.ErrForm, "p(X)", to(api.Step{Kind: -1}), to(api.Step{Kind: 9}), to(api.Step{Kind: 1 << 40}), to(api.Step{Kind: api.SAnd, Kids: two[:1]}), to(api.Step{Kind: api.SOr, Kids: two[:1]}), to(api.Step{Kind: api.SPar, Kids: two[:1]}), to(api.Step{Kind: api.SPar}), to(api.Step{Kind: api.SAnd, Kids: []api.Step{a, {Kind: api.SAnd, Kids: two}}}), to(api.Step{Kind: api.SOr, Kids: []api.Step{{Kind: api.SOr, Kids: two}, a}}), to(api.Step{Kind: api.SPar, Kids: []api.Step{a, {Kind: api.SPar, Kids: two}}}),
		to(api.Step{Kind: api.SIf}), to(api.Step{Kind: api.SIf, Kids: two}), to(api.Step{Kind: api.SIf, Kids: two[:1]}), to(api.Step{Kind: api.SIf, Kids: []api.Step{a, b, a, b}}), to(api.Step{Kind: api.SNot}), to(api.Step{Kind: api.SNot, Kids: two}), to(api.Step{Kind: api.SSome}), to(api.Step{Kind: api.SSome, Kids: two}),
		to(api.Step{Kind: api.SSome, Kids: two[:1], Vars: []string{"_"}}), to(api.Step{Kind: api.SSome, Kids: two[:1], Vars: []string{"!X"}}), to(api.Step{Kind: api.SSome, Kids: two[:1], Vars: []string{"!X1"}}), to(api.Step{Kind: api.SSome, Kids: two[:1], Vars: []string{"x"}}), to(api.Step{Kind: api.SSome, Kids: two[:1], Vars: []string{""}}),
		to(api.Step{Kind: api.SSame}), to(api.Step{Kind: api.SSame, Args: manyTerms(1)}), to(api.Step{Kind: api.SSame, Args: manyTerms(3)}), to(api.Step{Kind: api.SHigher}), to(api.Step{Kind: api.SHigher, Args: append([]api.Term{variab("X")}, manyTerms(32)...)}),
		to(call("")), to(call("a.B")), to(call("true")), to(call("fail")), to(call("false")), to(call("call", variab("X"))), to(call("call", num(1))), to(call("=", num(1), num(2))), to(call("\\=", num(1), num(2))), to(call(",", app("a"), app("b"))), to(call(";", app("a"), app("b"))), to(call("&", app("a"), app("b"))), to(call("->", app("a"), app("b"))), to(call("\\+", app("a"))), to(call("not", app("a"))), to(call("some", app("[]"), app("a"))), to(call("if")), to(call("else", app("if", app("then", app("a"), app("b"))), app("c"))), to(call("==", num(1), num(2))), to(call("where")), to(call(":-", app("a"))), to(call("-->")), to(call("!", variab("X"))), to(call("!:", variab("X"))), to(call("!.", variab("X"))), to(call("!", num(1))),
	)
	// fields that a kind does not use
	wantErrors(t, api.ErrForm, "p(X)", body(func(s *api.Step) { s.Name = "q" }), body(func(s *api.Step) { s.Vars = []string{"X"} }), body(func(s *api.Step) { s.Args = manyTerms(1) }))
	for i := range 8 {
		if i != 0 {
			wantErrors(t, api.ErrForm, everything, kid(i, func(s *api.Step) { s.Name = "q" }))
		}
		if i != 5 {
			wantErrors(t, api.ErrForm, everything, kid(i, func(s *api.Step) { s.Vars = []string{"X"} }))
		}
		if i < 1 || i > 5 {
			wantErrors(t, api.ErrForm, everything, kid(i, func(s *api.Step) { s.Kids = two }))
		} else {
			wantErrors(t, api.ErrForm, everything, kid(i, func(s *api.Step) { s.Args = manyTerms(2) }))
		}
	}
	// heads
	wantErrors(t, api.ErrForm, "f(X) = Y", func(c *api.Clause) { c.Head = nil }, func(c *api.Clause) { c.Name, c.Head[0] = "call", variab("X") }, func(c *api.Clause) { c.Name = "!" }, func(c *api.Clause) { c.Name = "" }, func(c *api.Clause) { c.Head[1] = variab("!X0") }, func(c *api.Clause) { c.Head[0] = app("!", variab("X")) })
	wantErrors(t, api.ErrForm, "p(X, Y)", func(c *api.Clause) { c.Name = "=" }, func(c *api.Clause) { c.Name = ":-" }, func(c *api.Clause) { c.Name = "-->" }, func(c *api.Clause) { c.Name, c.Head = "!", c.Head[:1] }, func(c *api.Clause) { c.Name, c.Head = "!:", c.Head[:1] }, func(c *api.Clause) { c.Name, c.Head = "!.", c.Head[:1] }, func(c *api.Clause) { c.Name = "{}" }, func(c *api.Clause) { c.Head[0] = app("!", variab("X")) }, func(c *api.Clause) { c.Head[0] = app("!.", variab("X")) }, func(c *api.Clause) { c.Head[0] = app("!:", variab("X")) }, func(c *api.Clause) { c.Name = "a b.c" })
	wantErrors(t, api.ErrForm, "p :- q(X)", func(c *api.Clause) { c.Name, c.Head = "=", []api.Term{num(1), num(2)} }, func(c *api.Clause) { c.Func = true })
	// terms that are read as others
	field, lambda := app("^", variab("X"), app("f")), app(":-", app("is", app("pred", app("::", variab("X"), app("in"))), app("det")), app("a"))
	wantErrors(t, api.ErrForm, "p(X) :- q(X)", body(func(s *api.Step) { s.Args[0] = field }), body(func(s *api.Step) { s.Args[0] = app(":=", field, num(1)) }), body(func(s *api.Step) { s.Args[0] = app(":=", app("^f", variab("X")), num(1)) }), body(func(s *api.Step) { s.Args[0] = lambda }), body(func(s *api.Step) { s.Args[0] = app("^", app("^", variab("X"), app("f")), app("g")) }), body(func(s *api.Step) { s.Args[0] = app("^", app("^", variab("X"), num(1)), app("g")) }), func(c *api.Clause) { c.Head[0] = field }, body(func(s *api.Step) { s.Args = append(s.Args, variab("!X0")) }), body(func(s *api.Step) { s.Args[0] = app("f", app("!", variab("X"))) }), body(func(s *api.Step) { s.Args[0] = app("!:", variab("X")) }), body(func(s *api.Step) { s.Args[0] = app("!.", variab("X")) }), body(func(s *api.Step) { s.Args[0] = app("!:", num(1)) }))
	// beyond the limits of a clause
	many := make([]api.Term, 0, 201)
	for i := range 201 {
		many = append(many, variab("V"+string(rune('a'+i/26))+string(rune('a'+i%26))))
	}
	deep := a
	for i := range 64 {
		deep = api.Step{Kind: []int{api.SAnd, api.SOr}[i%2], Kids: []api.Step{b, deep}}
	}
	wantErrors(t, api.ErrForm, "p :- q(X)", body(func(s *api.Step) { s.Args[0] = joined("[|]", append(many, app("[]"))) }), to(deep), func(c *api.Clause) { c.Head = []api.Term{joined("[|]", append(many, app("[]")))} })
	wantErrors(t, api.OK, "p", func(c *api.Clause) { c.At, c.Body.At = 77, -1 })
}

// P5.2: lambda goals that stand nowhere, or twice, or do not fit.
func TestLambdaErrors(t *testing.T) {
	none := call("q", app("a"))
	wantErrors(t, api.ErrForm, everything, func(c *api.Clause) { c.Lams = nil }, func(c *api.Clause) { c.Lams = c.Lams[:2] }, func(c *api.Clause) { c.Lams = append(c.Lams, c.Lams[2]) }, func(c *api.Clause) { c.Lams[0], c.Lams[1] = c.Lams[1], c.Lams[0] }, func(c *api.Clause) { c.Head[0].Num = 3 }, func(c *api.Clause) { c.Head[0].Num = -1 }, func(c *api.Clause) { c.Head[0].Num = 1 << 62 }, func(c *api.Clause) { c.Head[0].Num = 1 }, func(c *api.Clause) { c.Head[0].Name = "x" }, func(c *api.Clause) { c.Head[0].Args = manyTerms(1) }, func(c *api.Clause) { c.Head[1] = c.Head[0] }, func(c *api.Clause) { c.Body = none },
		func(c *api.Clause) { c.Lams[0].Args = nil }, func(c *api.Clause) { c.Lams[0].Modes = nil }, func(c *api.Clause) { c.Lams[0].Args, c.Lams[0].Modes = nil, nil }, func(c *api.Clause) { c.Lams[0].Args = append(c.Lams[0].Args, num(1)) }, func(c *api.Clause) { c.Lams[0].Modes = append(c.Lams[0].Modes, num(1)) }, func(c *api.Clause) { c.Lams[0].Det = -1 }, func(c *api.Clause) { c.Lams[0].Det = api.Dets }, func(c *api.Clause) { c.Lams[0].Body.Kind = 77 }, func(c *api.Clause) { c.Lams[0].Modes[0] = app("!.", variab("X")) }, func(c *api.Clause) { c.Lams[1].Args[0] = app("!", variab("X")) }, func(c *api.Clause) { c.Lams[1].Args[0] = variab("!X1") },
		// in themselves, and in one another
		func(c *api.Clause) { c.Lams[0].Body = call("q", lamb(0)) }, func(c *api.Clause) { c.Lams[2].Body = call("q", lamb(1)) }, func(c *api.Clause) { c.Lams[2].Args[0] = lamb(2) }, func(c *api.Clause) { c.Lams[2].Body = call("q", lamb(2), lamb(2), lamb(1)) },
	)
	wantErrors(t, api.ErrKind, everything, func(c *api.Clause) { c.Lams[1].Modes[0] = lamb(0) })
	// Each one twice in the one before: more copies than there is time for.
	c := clauseOf(t, "p :- q((pred(X::in) is det :- a))")
	for i := range 100 {
		lam := c.Lams[0]
		lam.Body = call("q", lamb(int64(i+1)), lamb(int64(i+1)))
		c.Lams = append(c.Lams[:i:i], lam, c.Lams[0])
	}
	if _, e := Term(c); e != api.ErrForm && e != api.ErrLimit {
		t.Error(e)
	}
}

// P5.2: the error of terms.Check of the term comes first.
func TestCheckErrors(t *testing.T) {
	long := strings.Repeat("a", api.MaxName+1)
	noKind, tooMuch := api.Term{Kind: 77}, num(api.MaxInt+1)
	wantErrors(t, api.ErrKind, "p(X) :- q(X)", func(c *api.Clause) { c.Head[0] = noKind }, body(func(s *api.Step) { s.Args[0] = noKind }), func(c *api.Clause) { c.Head[0], c.Body = noKind, api.Step{Kind: 77} }, body(func(s *api.Step) { s.Args[0] = app("^f", app("^g:=", num(1), noKind)) }))
	wantErrors(t, api.ErrRange, "p(X) :- q(X)", func(c *api.Clause) { c.Head[0] = tooMuch }, func(c *api.Clause) { c.Head[0], c.Body = tooMuch, call("q", noKind) }, to(api.Step{Kind: api.SAnd, Kids: []api.Step{{Kind: 77}, call("q", tooMuch)}}), to(api.Step{Kind: api.SSame, Args: []api.Term{tooMuch}}), to(api.Step{Kind: api.SNot, Kids: []api.Step{call("q", tooMuch), call("q")}}), to(api.Step{Kind: api.SIf, Kids: []api.Step{call("q", tooMuch)}}), to(api.Step{Kind: api.SSome, Vars: []string{"X"}, Kids: []api.Step{call("q", tooMuch)}}), body(func(s *api.Step) { s.Args[0] = api.Term{Kind: api.TText, Name: "\x01"} }))
	wantErrors(t, api.ErrForm, "p(X) :- q(X)", body(func(s *api.Step) { s.Args[0].Num = 1 }), body(func(s *api.Step) { s.Args[0].Args = manyTerms(1) }), body(func(s *api.Step) { s.Args[0] = api.Term{Kind: api.TInt, Name: "1"} }), body(func(s *api.Step) { s.Args = []api.Term{variab("x"), noKind} }), to(api.Step{Kind: api.SSome, Vars: []string{"!X1"}, Kids: []api.Step{call("q", noKind)}}))
	wantErrors(t, api.ErrLimit, "p(X) :- q(X)", func(c *api.Clause) { c.Name = long }, func(c *api.Clause) { c.Head = manyTerms(33) }, to(call(long)), to(call("q", manyTerms(33)...)), to(api.Step{Kind: api.SHigher, Args: manyTerms(33)}), to(api.Step{Kind: api.SHigher, Args: append([]api.Term{variab("X")}, manyTerms(33)...)}), body(func(s *api.Step) { s.Args[0] = deepTerm(63) }), func(c *api.Clause) { c.Head[0] = deepTerm(63); c.Body = call("q", noKind) }, body(func(s *api.Step) { s.Args[0] = app("^"+long, num(1)) }), to(api.Step{Kind: api.SSome, Vars: []string{"X" + long}, Kids: []api.Step{call("q")}}))
	wantErrors(t, api.OK, "p(X) :- q(X)", func(c *api.Clause) { c.Head[0] = deepTerm(62) }, body(func(s *api.Step) { s.Args[0] = deepTerm(62) }), func(c *api.Clause) { c.Head = manyTerms(32) })
	wantErrors(t, api.ErrRange, everything, func(c *api.Clause) { c.Lams[2].Args[0] = tooMuch }, func(c *api.Clause) { c.Lams[1].Modes[1] = tooMuch }, func(c *api.Clause) { c.Lams[0].Body.Kids[1] = call("q", tooMuch) }, func(c *api.Clause) { c.Lams[0].Modes[0], c.Head[1] = tooMuch, noKind })
	// Conditions one behind the other are nested in the term as well.
	deep := strings.Repeat("a -> b ; ", 59)
	for _, x := range []struct {
		text string
		want api.Errno
	}{{"p :- " + deep + "a -> b ; c", api.OK}, {"p :- " + deep + "a -> b ; a -> b ; c", api.ErrLimit}} {
		if _, e := Term(clauseOf(t, x.text)); e != x.want {
			t.Error(x.text, e)
		}
	}
}

// P5.2: what a text can say and a clause keeps no more.
func TestNoTerm(t *testing.T) {
	for _, x := range []string{"p(!X) :- q(!X)", "p(!X)", "p(!.X)", "p :- q(!.X)", "p :- q(!:X)", "p :- some [!X] q", "p --> q", "p --> []", "p :- q((pred(!X::in) is det :- r))", "p :- q((pred(Y::in) is det :- r(!X)))", "(a --> b) :- true", "'-->'(a, b) :- c ; d"} {
		want := api.ErrForm
		if strings.Contains(x, "c ; d") {
			want = api.OK
		}
		if got, e := Term(clauseOf(t, x)); e != want || (e != api.OK) != identical(got, api.Term{}) {
			t.Error(x, termLine(got), e)
		}
	}
}

// modules that say something of everything, and what is written of them.
const manyModules = `:- module m.
:- interface.
:- import_module a.
:- type t(A) ---> c(f :: A) ; d.
:- pred p(int :: in, t(A) :: out) is nondet <= k(A).
:- typeclass k(A) <= (l(A), l(t(A))) where [pred q(A), func e(A :: in(x)) = (t(A) :: out(x)) is det].
:- module n.
:- interface.
:- func g(int) = int.
:- implementation.
g(X) = Y :-
    ( if X < 1 then Y = 2 else Y = X ).
:- end_module n.
:- implementation.
:- type u(A, B) == pred(A, t(B)).
:- inst i == bound(d).
:- mode j == (any(free) >> any(i)).
:- pred r.
:- mode r is det.
:- mode r is multi.
:- instance k(t(int)) <= (l(t(int)), k(int)) where [pred(q / 1) is p].
:- promise assoc(p).
:- module o.
:- implementation.
h.
h :-
    h.
:- end_module o.
p(X, c(Y)) :-
    Y = X ^ f ^ g,
    s((pred(Z :: in) is semidet :- Z = Y)).
p(_, d) :-
    ( a ; \+ b ).
:- end_module m.
`

// P5.1, P5.2: modules of texts, and texts of modules.
func TestModules(t *testing.T) {
	m, f := Text(manyModules)
	if f.Code != api.OK {
		t.Fatal(f)
	}
	want := "m {\np(X, c(Y)) :- And(Same(Y, ^g(^f(X))), s(#0)) | #0(Z::in) semidet :- Same(Z, Y)\np(_, d) :- Or(a, Not(b))\nn + {\ng(X) = Y :- If(<(X, 1), Same(Y, 2), Same(Y, X))\n}\no {\nh :- And()\nh :- h\n}\n}\n"
	if moduleLines(m) != want || len(m.Types) != 2 || len(m.Decls) != 2 || len(m.Kids[0].Decls) != 1 || m.Kids[1].At != strings.Index(manyModules, ":- module o") || m.Clauses[0].At != strings.Index(manyModules, ":-\n    Y") {
		t.Error(moduleLines(m))
	}
	s, e := Write(m)
	// What is public stands in front in it already.
	if e != api.OK || s != canonical(t, manyModules) {
		t.Errorf("%v\n%s", e, s)
	}
	u, e := Unit(m)
	v, f := items.Text(manyModules)
	if e != api.OK || f.Code != api.OK || len(u.Clauses) != 2 || len(u.Kids) != 2 || len(u.Kids[1].Clauses) != 2 || len(u.Module.Clauses) != 0 || len(u.Module.Kids) != 0 || !identical(u.Clauses[0], bare(v.Clauses[0])) || u.Module.At != m.At || u.Module.Types[0].At != m.Types[0].At {
		t.Error(e, u)
	}
	again, f := Module(u)
	if f.Code != api.OK || moduleLines(again) != want || len(again.Types) != 2 {
		t.Error(moduleLines(again), f)
	}
	if m, f := Module(items.Unit{}); f.Code != api.OK || moduleLines(m) != " {\n}\n" {
		t.Error(m, f)
	}
	// What a unit has no place for is no part of it.
	u.Module.Clauses, u.Module.Kids = m.Clauses, m.Kids
	if again, f := Module(u); f.Code != api.OK || moduleLines(again) != want {
		t.Error(moduleLines(again), f)
	}
}

// canonical returns the lines of a text.
func canonical(t *testing.T, text string) string {
	t.Helper()
	s, f := pretty.Canonical(text)
	if f.Code != api.OK {
		t.Fatal(f)
	}
	return s
}

// P5.1: the first fault of a module: that of its text, then those of its clauses, then those of the modules in it.
func TestModuleFaults(t *testing.T) {
	const start = ":- module m. :- implementation. "
	for _, x := range []struct {
		text string
		code api.Errno
	}{
		{start + "p. q :- §1. r :- 2.", api.ErrSyntax}, {start + ":- module k. :- implementation. p :- 1. :- end_module k. q :- §2.", api.ErrSyntax}, {start + ":- module k. :- implementation. :- module l. :- implementation. p :- 1. :- end_module l. q :- §2. :- end_module k. :- module o. :- implementation. r :- 3. :- end_module o. s.", api.ErrSyntax}, {start + ":- module k. :- implementation. p :- §1. :- end_module k. :- module l. :- implementation. p :- 2. :- end_module l.", api.ErrSyntax},
		{start + "p :- 1. §:- pred p(int) is det.", api.ErrMode}, {start + "p :- 1. q §b.", api.ErrSyntax}, {start + "p :- 1. §\x01", api.ErrForm}, {start + "p :- 1. :- §foo.", api.ErrSyntax}, {start + "§p(" + manyOf(17, "!A#") + ").", api.ErrLimit}, {start + "p §:- q([" + manyOf(201, "A#") + "]). r :- 1.", api.ErrLimit}, {"", api.ErrEmpty},
	} {
		text, at := marked(x.text)
		if m, f := Text(text); f != (api.Fault{At: at, Code: x.code}) || moduleLines(m) != moduleLines(api.Module{}) || len(m.Decls) > 0 {
			t.Errorf("%s: %v", x.text, f)
		}
	}
	kids := []items.Unit{{Clauses: []api.Term{{Kind: api.TInt, At: 5}}}, {Clauses: []api.Term{{Kind: 9, At: 6}}}}
	for _, x := range []struct {
		unit items.Unit
		want api.Fault
	}{
		{items.Unit{Kids: kids}, api.Fault{At: 5, Code: api.ErrSyntax}}, {items.Unit{Kids: kids[1:]}, api.Fault{At: 6, Code: api.ErrKind}}, {items.Unit{Clauses: []api.Term{app("p"), {Kind: api.TVar, At: 7}, num(1)}, Kids: kids}, api.Fault{At: 7, Code: api.ErrForm}},
	} {
		x.unit.Module = api.Module{Name: "m", Laws: []api.Law{{}}}
		if m, f := Module(x.unit); f != x.want || m.Name != "" || len(m.Laws) > 0 || len(m.Kids) > 0 {
			t.Error(m, f)
		}
	}
}

// P5.2: the first error of a module.
func TestModuleErrors(t *testing.T) {
	right, noTerm := clauseOf(t, "p(X) :- q(X)"), api.Clause{Name: "p", Body: api.Step{Kind: 77}}
	tooMuch := api.Clause{Name: "p", Head: []api.Term{num(api.MaxInt + 1)}}
	noKind := api.Clause{Name: "p", Head: []api.Term{{Kind: 77}}}
	of := func(l ...api.Clause) api.Module { return api.Module{Name: "m", Clauses: l} }
	with := func(m api.Module, kids ...api.Module) api.Module {
		m.Kids = kids
		return m
	}
	for i, x := range []struct {
		m           api.Module
		unit, write api.Errno
	}{
		{of(right), api.OK, api.OK}, {of(right, noTerm, noKind), api.ErrForm, api.ErrForm}, {of(tooMuch, noTerm), api.ErrRange, api.ErrRange}, {with(of(right), of(noTerm), of(noKind)), api.ErrForm, api.ErrForm}, {with(of(right), with(of(right), of(noKind)), of(tooMuch)), api.ErrKind, api.ErrKind}, {with(of(noKind), of(tooMuch)), api.ErrKind, api.ErrKind}, {with(of(right), with(of(tooMuch), of(noKind))), api.ErrRange, api.ErrRange},
		// of the items
		{api.Module{Name: "m", Types: []api.TypeDef{{Name: "t", Kind: 77}}}, api.OK, api.ErrForm}, {api.Module{}, api.OK, api.ErrForm}, {api.Module{Name: strings.Repeat("a", 41)}, api.OK, api.ErrLimit}, {api.Module{Name: "m", Types: []api.TypeDef{{Kind: 77}}, Clauses: []api.Clause{noKind}}, api.ErrKind, api.ErrKind}, {of(clauseOf(t, ":- a")), api.OK, api.ErrForm}, {api.Module{Name: "m", Insts: []api.InstDef{{Name: "i", Body: num(api.MaxInt + 1)}}}, api.OK, api.ErrRange}, {with(of(right), api.Module{Name: "+"}), api.OK, api.ErrForm},
		// of the text
		{of(clauseOf(t, "p(\""+strings.Repeat("a", 65000)+"\")")), api.OK, api.OK}, {of(clauseOf(t, "p(\""+strings.Repeat("a", 65500)+"\")")), api.OK, api.ErrLimit},
	} {
		u, e := Unit(x.m)
		if e != x.unit || e != api.OK && (u.Module.Name != "" || len(u.Clauses)+len(u.Kids) > 0) {
			t.Error(i, e, u)
		}
		if s, e := Write(x.m); e != x.write || (e == api.OK) != (s != "") {
			t.Error(i, e, s)
		}
	}
}

// P5.2: the parts of the text of a module stand in their order, clause by clause.
func TestWrittenOrder(t *testing.T) {
	m, f := Text(":- module m. :- implementation. b. :- interface. a. :- module k. :- implementation. c. :- end_module k. :- implementation. :- type t. :- interface. :- type u. d.")
	if f.Code != api.OK {
		t.Fatal(f)
	}
	s, e := Write(m)
	want := ":- module m.\n:- interface.\n:- type u.\n:- module k.\n:- implementation.\nc.\n:- end_module k.\n:- implementation.\n:- type t.\nb.\na.\nd.\n:- end_module m.\n"
	if e != api.OK || s != want {
		t.Errorf("%v %s", e, s)
	}
	if u, e := Unit(m); e != api.OK || !slices.EqualFunc(u.Clauses, []api.Term{app("b"), app("a"), app("d")}, identical) {
		t.Error(e, u)
	}
}
