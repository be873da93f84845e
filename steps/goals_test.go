package steps

import (
	"strings"
	"testing"

	"cinnabar/api"
)

// P5.1: goals that have goals in them.
func TestCompoundGoals(t *testing.T) {
	wantGoals(t,
		row{"true", "And()"}, row{"fail", "Or()"}, row{"false", "Or()"}, row{"'true'", "And()"},
		// side by side
		row{"a, b", "And(a, b)"}, row{"a, b, c", "And(a, b, c)"}, row{"(a, b), c", "And(a, b, c)"}, row{"(a, b), (c, d), e", "And(a, b, c, d, e)"}, row{"((a, b), c), d", "And(a, b, c, d)"}, row{"a, true", "And(a, And())"}, row{"true, true", "And(And(), And())"},
		row{"a ; b", "Or(a, b)"}, row{"a ; b ; c", "Or(a, b, c)"}, row{"(a ; b) ; c", "Or(a, b, c)"}, row{"(a ; b) ; (c ; d)", "Or(a, b, c, d)"}, row{"a ; fail", "Or(a, Or())"},
		row{"a & b", "Par(a, b)"}, row{"a & b & c", "Par(a, b, c)"}, row{"(a & b) & c", "Par(a, b, c)"},
		row{"a, (b ; c), d", "And(a, Or(b, c), d)"}, row{"(a, b) ; c", "Or(And(a, b), c)"}, row{"a & b, c", "Par(a, And(b, c))"}, row{"(a & b), c", "And(Par(a, b), c)"}, row{"a & (b ; c)", "Par(a, Or(b, c))"}, row{"a, (b ; (c, (d ; e)))", "And(a, Or(b, And(c, Or(d, e))))"},
		// conditions
		row{"a -> b ; c", "If(a, b, c)"}, row{"(a -> b) ; c", "If(a, b, c)"}, row{"if a then b else c", "If(a, b, c)"}, row{"a -> b", "If(a, b, Or())"}, row{"a -> b ; fail", "If(a, b, Or())"}, row{"a -> b ; true", "If(a, b, And())"},
		row{"a -> b ; c -> d ; e", "If(a, b, If(c, d, e))"}, row{"a -> b ; c -> d", "If(a, b, If(c, d, Or()))"}, row{"a -> b ; c ; d", "If(a, b, Or(c, d))"}, row{"a -> b -> c", "If(a, If(b, c, Or()), Or())"}, row{"(a -> b) -> c", "If(If(a, b, Or()), c, Or())"}, row{"(a -> b) -> c ; d", "If(If(a, b, Or()), c, d)"},
		row{"(a -> b ; c) ; d", "Or(If(a, b, c), d)"}, row{"a ; b -> c ; d", "Or(a, If(b, c, d))"}, row{"a ; b -> c", "Or(a, If(b, c, Or()))"}, row{"a ; b ; c -> d ; e ; f", "Or(a, b, If(c, d, Or(e, f)))"}, row{"(a ; b -> c) ; d", "Or(a, If(b, c, Or()), d)"}, row{"(a ; b) -> c ; d", "If(Or(a, b), c, d)"},
		row{"if a, b then c, d else e ; f", "If(And(a, b), And(c, d), Or(e, f))"}, row{"if a then b else if c then d else e", "If(a, b, If(c, d, e))"}, row{"if (if a then b else c) then d else e", "If(If(a, b, c), d, e)"}, row{"(if a then b else c) ; d", "Or(If(a, b, c), d)"}, row{"(if a then b else c), d", "And(If(a, b, c), d)"}, row{"a & (b -> c)", "Par(a, If(b, c, Or()))"}, row{"if a -> b then c else d", "If(If(a, b, Or()), c, d)"},
		// not and some
		row{"\\+ a", "Not(a)"}, row{"not a", "Not(a)"}, row{"\\+ (a, b)", "Not(And(a, b))"}, row{"\\+ \\+ not a", "Not(Not(Not(a)))"}, row{"\\+ true", "Not(And())"}, row{"\\+ a, b", "And(Not(a), b)"},
		row{"some [X] a(X)", "Some([X] a(X))"}, row{"some [] a", "Some([] a)"}, row{"some [X, Y, X] (a, b)", "Some([X Y X] And(a, b))"}, row{"some [X | [Y | []]] a", "Some([X Y] a)"}, row{"some [_x] a ; b", "Or(Some([_x] a), b)"}, row{"some [X] some [Y] a", "Some([X] Some([Y] a))"},
	)
}

// P5.1: goals without goals in them.
func TestAtomicGoals(t *testing.T) {
	wantGoals(t,
		row{"X = Y", "Same(X, Y)"}, row{"f(X, a) = 1", "Same(f(X, a), 1)"}, row{"\"a\" = 0'b", "Same(\"a\", 0'b)"}, row{"X \\= Y", "Not(Same(X, Y))"}, row{"\\+ X = Y", "Not(Same(X, Y))"}, row{"\\+ X \\= Y", "Not(Not(Same(X, Y)))"}, row{"_ = _", "Same(_, _)"}, row{"(a, b) = (c -> d)", "Same(,(a, b), ->(c, d))"}, row{"X = (a = b)", "Same(X, =(a, b))"}, row{"X = [1, 2 | T]", "Same(X, [|](1, [|](2, T)))"},
		// closures
		row{"X", "Higher(X)"}, row{"_", "Higher(_)"}, row{"P(1)", "Higher(P, 1)"}, row{"P(X, f(Y))", "Higher(P, X, f(Y))"}, row{"call(p)", "Higher(p)"}, row{"call(X)", "Higher(X)"}, row{"call(p(1), X)", "Higher(p(1), X)"}, row{"call(1, 2)", "Higher(1, 2)"}, row{"'call'(call)", "Higher(call)"}, row{"call(P(1), 2)", "Higher(call(P, 1), 2)"}, row{"X, Y", "And(Higher(X), Higher(Y))"},
		// calls
		row{"p", "p"}, row{"p(X, 1, \"a\", 0'b, f(_))", "p(X, 1, \"a\", 0'b, f(_))"}, row{"a.b(X)", "a.b(X)"}, row{"call", "call"}, row{"'A b'(c)", "A b(c)"}, row{"p((a :- b))", "p(:-(a, b))"}, row{"p(P(X))", "p(call(P, X))"},
		row{"X < Y", "<(X, Y)"}, row{"X is Y", "is(X, Y)"}, row{"a :: b", "::(a, b)"}, row{"a := b", ":=(a, b)"}, row{"X ^ f", "^(X, f)"}, row{"X ^ f := Y", ":=(^f(X), Y)"}, row{"a ---> b", "--->(a, b)"}, row{"a <= b", "<=(a, b)"}, row{"- a", "-(a)"}, row{"pred a", "pred(a)"}, row{"module a", "module(a)"}, row{"a + b", "+(a, b)"},
		row{"[]", "[]"}, row{"[a]", "[|](a, [])"}, row{"{a}", "{}(a)"}, row{"!", "!"}, row{"'!:'", "!:"}, row{"'!'(a, b)", "!(a, b)"}, row{"'!:'(a, b)", "!:(a, b)"},
		// names of other goals, with other numbers of arguments
		row{"true(a)", "true(a)"}, row{"fail(a)", "fail(a)"}, row{"false(a, b)", "false(a, b)"}, row{"','(a)", ",(a)"}, row{"','(a, b, c)", ",(a, b, c)"}, row{"','", ","}, row{"';'(a)", ";(a)"}, row{"'&'(a, b, c)", "&(a, b, c)"}, row{"'->'(a)", "->(a)"}, row{"\\+(a, b)", "\\+(a, b)"}, row{"not", "not"}, row{"some(a)", "some(a)"}, row{"some(a, b, c)", "some(a, b, c)"}, row{"'='(a)", "=(a)"}, row{"'\\\\='(a, b, c)", "\\=(a, b, c)"}, row{"';'((a -> b), c, d)", ";(->(a, b), c, d)"},
	)
}

// P5.1: heads of predicates and functions, with and without bodies.
func TestHeads(t *testing.T) {
	wantClauses(t,
		row{"p", "p :- And()"}, row{"p :- true", "p :- And()"}, row{"p(X, f(Y)) :- q", "p(X, f(Y)) :- q"}, row{"a.b(1)", "a.b(1) :- And()"}, row{"'A'(\"x\")", "A(\"x\") :- And()"}, row{"P(X) :- q", "call(P, X) :- q"}, row{"X < Y :- q", "<(X, Y) :- q"}, row{"[a]", "[|](a, []) :- And()"}, row{"{a} :- b", "{}(a) :- b"}, row{"! :- p", "! :- p"}, row{"'!'(a, b)", "!(a, b) :- And()"},
		row{"'='(a)", "=(a) :- And()"}, row{"'='(a, b, c) :- d", "=(a, b, c) :- d"}, row{"(a :- b) :- c", ":-(a, b) :- c"}, row{"(a --> b) :- c", "-->(a, b) :- c"}, row{":- a", ":-(a) :- And()"}, row{"':-'(a, b, c)", ":-(a, b, c) :- And()"}, row{"(a, b) :- c", ",(a, b) :- c"}, row{"true", "true :- And()"}, row{"(a where b) :- c", "where(a, b) :- c"}, row{"else", "else :- And()"},
		row{"f(X) = Y", "f(X) = Y :- And()"}, row{"f = 1 :- p", "f = 1 :- p"}, row{"f(X, a) = g(X) :- p(X)", "f(X, a) = g(X) :- p(X)"}, row{"X + Y = Z :- p", "+(X, Y) = Z :- p"}, row{"(a = b) = c", "=(a, b) = c :- And()"}, row{"f = (a = b)", "f = =(a, b) :- And()"}, row{"call = X", "call = X :- And()"}, row{"call(a, X) = Y", "call(a, X) = Y :- And()"}, row{"[] = X", "[] = X :- And()"}, row{"! = X", "! = X :- And()"},
	)
}

// P5.1: fields, in chains and replaced, wherever a term stands.
func TestFields(t *testing.T) {
	wantGoals(t,
		row{"p(X ^ f)", "p(^f(X))"}, row{"p(X ^ f ^ g)", "p(^g(^f(X)))"}, row{"p(X ^ f ^ g ^ h)", "p(^h(^g(^f(X))))"}, row{"p((X ^ f) ^ g)", "p(^g(^f(X)))"}, row{"p(((X ^ f) ^ g ^ h) ^ i)", "p(^i(^h(^g(^f(X)))))"}, row{"p(a ^ b)", "p(^b(a))"}, row{"p(g(X ^ f) ^ a1_B)", "p(^a1_B(g(^f(X))))"}, row{"p([X ^ f | Y ^ g])", "p([|](^f(X), ^g(Y)))"},
		row{"X ^ f = Y ^ g", "Same(^f(X), ^g(Y))"}, row{"call(X ^ f, Y ^ g)", "Higher(^f(X), ^g(Y))"}, row{"p(X ^ pred)", "p(^pred(X))"}, row{"p(X ^ f + Y ^ g)", "p(+(^f(X), ^g(Y)))"}, row{"p('^f'(X))", "p(^f(X))"},
		// replaced
		row{"p(X ^ f := 1)", "p(^f:=(X, 1))"}, row{"p(X ^ f ^ g := 1)", "p(^f:=(X, ^g:=(^f(X), 1)))"}, row{"p(X ^ f ^ g ^ h := 1)", "p(^f:=(X, ^g:=(^f(X), ^h:=(^g(^f(X)), 1))))"}, row{"p((X ^ f) ^ g := 1)", "p(^g:=(^f(X), 1))"}, row{"p((X ^ f) ^ g ^ h := 1)", "p(^g:=(^f(X), ^h:=(^g(^f(X)), 1)))"}, row{"p(X ^ f := Y ^ g)", "p(^f:=(X, ^g(Y)))"}, row{"p(X ^ f := (Y ^ g := 1))", "p(^f:=(X, ^g:=(Y, 1)))"}, row{"p((X ^ f := 1) ^ g := 2)", "p(^g:=(^f:=(X, 1), 2))"}, row{"p((X ^ f := 1) ^ g)", "p(^g(^f:=(X, 1)))"},
		row{"X = Y ^ f := 1", "Same(X, ^f:=(Y, 1))"}, row{"p(h(X ^ a) ^ f ^ g := h(V ^ b))", "p(^f:=(h(^a(X)), ^g:=(^f(h(^a(X))), h(^b(V)))))"},
		// what is no field
		row{"p(X ^ Y)", "p(^(X, Y))"}, row{"p(X ^ 1)", "p(^(X, 1))"}, row{"p(X ^ 'A')", "p(^(X, A))"}, row{"p(X ^ +)", "p(^(X, +))"}, row{"p(X ^ a.b)", "p(^(X, a.b))"}, row{"p(X ^ f(1))", "p(^(X, f(1)))"}, row{"p(X ^ f ^ 1)", "p(^(X, ^(f, 1)))"}, row{"p(X ^ Y ^ f)", "p(^(X, ^f(Y)))"}, row{"p(X ^ f ^ Y ^ g)", "p(^(X, ^(f, ^g(Y))))"}, row{"p(X ^ 'a b')", "p(^(X, a b))"}, row{"p(X ^ [])", "p(^(X, []))"},
		row{"p(X := 1)", "p(:=(X, 1))"}, row{"p(X ^ 1 := 2)", "p(:=(^(X, 1), 2))"}, row{"p(X ^ f ^ Y := 2)", "p(:=(^(X, ^(f, Y)), 2))"}, row{"p('^'(X))", "p(^(X))"}, row{"p('^'(X, f, g))", "p(^(X, f, g))"}, row{"p(X ^ f = Y)", "p(=(^f(X), Y))"},
	)
	wantClauses(t,
		row{"p(X ^ f)", "p(^f(X)) :- And()"}, row{"f(X ^ g ^ h) = X ^ g := 1", "f(^h(^g(X))) = ^g:=(X, 1) :- And()"}, row{"s --> [X ^ f], t(X ^ g), {u(X ^ h)}", "s(!-0, !-2) :- And(Same(!-0, [|](^f(X), !-1)), t(^g(X), !-1, !-2), u(^h(X)))"},
	)
}

// P5.1: lambda goals, and how they are numbered.
func TestLambdas(t *testing.T) {
	wantGoals(t,
		row{"p((pred(X::in) is det :- q(X)))", "p(#0) | #0(X::in) det :- q(X)"}, row{"p((pred(X::in, f(Y)::out(list)) is nondet :- q, r))", "p(#0) | #0(X::in, f(Y)::out(list)) nondet :- And(q, r)"}, row{"p((pred(X::in) is semidet :- true))", "p(#0) | #0(X::in) semidet :- And()"}, row{"F = (pred(1::a, _::b) is failure :- fail)", "Same(F, #0) | #0(1::a, _::b) failure :- Or()"},
		row{"call((pred(X::in) is cc_multi :- X), 1)", "Higher(#0, 1) | #0(X::in) cc_multi :- Higher(X)"}, row{"p([(pred(X::in) is erroneous :- a) | (pred(Y::in) is multi :- b)])", "p([|](#0, #1)) | #0(X::in) erroneous :- a | #1(Y::in) multi :- b"}, row{"p((pred(X::in) is cc_nondet :- if a then b else c))", "p(#0) | #0(X::in) cc_nondet :- If(a, b, c)"},
		// in order
		row{"p((pred(X::in) is det :- a), (pred(Y::in) is det :- b)), q((pred(Z::in) is det :- c))", "And(p(#0, #1), q(#2)) | #0(X::in) det :- a | #1(Y::in) det :- b | #2(Z::in) det :- c"},
		row{"p((pred(X::in) is det :- q((pred(Y::in) is det :- a)), r((pred(Z::in) is det :- b))), (pred(W::in) is det :- c))", "p(#0, #3) | #0(X::in) det :- And(q(#1), r(#2)) | #1(Y::in) det :- a | #2(Z::in) det :- b | #3(W::in) det :- c"},
		row{"p((pred((pred(Y::in) is det :- a)::in, X::out) is det :- q((pred(Z::in) is det :- b))))", "p(#0) | #0(#1::in, X::out) det :- q(#2) | #1(Y::in) det :- a | #2(Z::in) det :- b"},
		row{"(a ; p((pred(X::in) is det :- b))), \\+ q((pred(X::in) is det :- c))", "And(Or(a, p(#0)), Not(q(#1))) | #0(X::in) det :- b | #1(X::in) det :- c"}, row{"p((pred(X::in) is det :- a) ^ f)", "p(^f(#0)) | #0(X::in) det :- a"},
		// Each term that a path is replaced in is met there.
		row{"p((pred(X::in) is det :- a) ^ f ^ g := (pred(Y::in) is det :- b))", "p(^f:=(#0, ^g:=(^f(#1), #2))) | #0(X::in) det :- a | #1(X::in) det :- a | #2(Y::in) det :- b"},
		// what is no lambda goal
		row{"p((f(X) :- a))", "p(:-(f(X), a))"}, row{"p((pred(X::in) :- a))", "p(:-(pred(::(X, in)), a))"}, row{"p(pred(X::in) is det)", "p(is(pred(::(X, in)), det))"}, row{"p((func(X::in) is det :- a))", "p(:-(is(func(::(X, in)), det), a))"}, row{"p((pred(X::in) is det --> a))", "p(-->(is(pred(::(X, in)), det), a))"}, row{"p((pred X::in is det :- a))", "p(:-(pred(is(::(X, in), det)), a))"}, row{"p((X is det :- a))", "p(:-(is(X, det), a))"},
		// Terms of modes are nobody's goals.
		row{"p((pred(X :: (pred(Y::in) is det :- 1)) is det :- a))", "p(#0) | #0(X:::-(is(pred(::(Y, in)), det), 1)) det :- a"}, row{"p((pred(X :: a ^ f) is det :- a))", "p(#0) | #0(X::^(a, f)) det :- a"},
	)
	wantClauses(t,
		row{"p((pred(X::in) is det :- a), (pred(Y::in) is det :- b)) :- q((pred(Z::in) is det :- c))", "p(#0, #1) :- q(#2) | #0(X::in) det :- a | #1(Y::in) det :- b | #2(Z::in) det :- c"}, row{"f((pred(X::in) is det :- a)) = (pred(Y::in) is det :- b) :- q((pred(Z::in) is det :- c))", "f(#0) = #1 :- q(#2) | #0(X::in) det :- a | #1(Y::in) det :- b | #2(Z::in) det :- c"},
		row{"s((pred(X::in) is det :- a)) --> t((pred(Y::in) is det :- b, c)), [(pred(Z::in) is det :- {d})]", "s(#0, !-0, !-2) :- And(t(#1, !-0, !-1), Same(!-1, [|](#2, !-2))) | #0(X::in) det :- a | #1(Y::in) det :- And(b, c) | #2(Z::in) det :- {}(d)"}, row{"(pred(X::in) is det :- a)", "is(pred(::(X, in)), det) :- a"},
	)
}

// P5.1: the places of clauses, goals, terms and lambda goals.
func TestPlaces(t *testing.T) {
	text := "p(X, !S) :- aa(Y), ( bb ; cc -> dd ), \\+ ee(!S), F = (pred(Z :: in) is det :- gg(Z ^ ff)), ( if hh then ii else X \\= jj ), some [V] kk, LL(!.S), ( mm(!S) ; nn )"
	at := func(s string) int { return strings.Index(text, s) }
	c := clauseOf(t, text)
	k := c.Body.Kids
	same := k[7].Kids[0].Kids[1]
	for _, x := range []struct {
		what      string
		got, want int
	}{
		{"clause", c.At, at(":-")}, {"head", c.Head[0].At, at("X")}, {"version", c.Head[1].At, at("!S)")}, {"version", c.Head[2].At, at("!S)")}, {"body", c.Body.At, at(", ( bb")}, {"call", k[0].At, at("aa")}, {"argument", k[0].Args[0].At, at("Y")},
		{"or", k[1].At, at(" ; cc") + 1}, {"kid", k[1].Kids[0].At, at("bb")}, {"if", k[1].Kids[1].At, at("->")}, {"no else", k[1].Kids[1].Kids[2].At, at("->")}, {"not", k[2].At, at("\\+")}, {"version", k[2].Kids[0].Args[1].At, at("!S), F")},
		{"same", k[3].At, at("= (pred")}, {"side", k[3].Args[0].At, at("F =")}, {"lambda", k[3].Args[1].At, at(":- gg")}, {"lambda", c.Lams[0].At, at(":- gg")}, {"argument", c.Lams[0].Args[0].At, at("Z ::")}, {"mode", c.Lams[0].Modes[0].At, at("in)")}, {"body", c.Lams[0].Body.At, at("gg")}, {"field", c.Lams[0].Body.Args[0].At, at("^")},
		{"if", k[4].At, at("else")}, {"then", k[4].Kids[1].At, at("ii")}, {"differ", k[4].Kids[2].At, at("\\=")}, {"same", k[4].Kids[2].Kids[0].At, at("\\=")}, {"some", k[5].At, at("some")}, {"higher", k[6].At, at("LL")}, {"version", k[6].Args[1].At, at("!.S")},
		{"kid", k[7].Kids[0].At, at("mm")}, {"join", same.At, at(" ; nn") + 1}, {"version", same.Args[0].At, at(" ; nn") + 1}, {"version", same.Args[1].At, at(" ; nn") + 1}, {"joined", k[7].Kids[0].Kids[0].At, at("mm")},
	} {
		if x.got != x.want {
			t.Errorf("%s: %d, not %d", x.what, x.got, x.want)
		}
	}
	if same.Kind != api.SSame || k[3].Args[1].Kind != api.TLam {
		t.Error(clauseLine(c))
	}
	if c := clauseOf(t, "  p(X)"); c.At != 2 || c.Body.At != 2 {
		t.Error(c)
	}
	text = "p --> q, [a], \"b\""
	c = clauseOf(t, text)
	if k := c.Body.Kids; c.At != at("-->") || c.Head[0].At != 0 || k[0].Args[0].At != at("q") || k[1].At != at("a]") || k[1].Args[0].At != at("a]") || k[1].Args[1].Args[1].At != at("], ") || k[2].At != at("\"b") || k[2].Args[1].Args[0].At != at("\"b") {
		t.Error(c)
	}
}
