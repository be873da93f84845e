package steps

import "testing"

// P5.1: versions in goals without goals in them, and in heads.
func TestStatesInAtoms(t *testing.T) {
	wantClauses(t,
		row{"p(!X) :- q(!X), r(!.X)", "p(!X0, !X1) :- And(q(!X0, !X1), r(!X1))"}, row{"p(!X) :- q(!.X, !:X)", "p(!X0, !X1) :- q(!X0, !X1)"}, row{"p(!X) :- q(!:X, !.X, a, !.X)", "p(!X0, !X1) :- q(!X1, !X0, a, !X0)"}, row{"p(!X) :- q(!X, !X), r(!X)", "p(!X0, !X2) :- And(q(!X0, !X1, !X0, !X1), r(!X1, !X2))"}, row{"p(!X) :- q(!:X, !X, !.X)", "p(!X0, !X1) :- q(!X1, !X0, !X1, !X0)"},
		row{"p(!X, !Y) :- q(!X, !Y), r(!Y)", "p(!X0, !X1, !Y0, !Y2) :- And(q(!X0, !X1, !Y0, !Y1), r(!Y1, !Y2))"}, row{"p(!X) :- q(!.X), r(!.X)", "p(!X0, !X0) :- And(q(!X0), r(!X0))"}, row{"p(X, !X) :- q(X, !X, X)", "p(X, !X0, !X1) :- q(X, !X0, !X1, X)"}, row{"p(!_) :- q(!_, _)", "p(!_0, !_1) :- q(!_0, !_1, _)"}, row{"p :- q(!:X), r(!:X), s(!.X)", "p :- And(q(!X1), r(!X2), s(!X2))"}, row{"p :- q(!.Ab)", "p :- q(!Ab0)"},
		// in other terms
		row{"p(!X) :- q(f(!.X), [!:X | !.Y])", "p(!X0, !X1) :- q(f(!X0), [|](!X1, !Y0))"}, row{"p(!X) :- q(f(g(!:X), !:X), !.X)", "p(!X0, !X1) :- q(f(g(!X1), !X1), !X0)"}, row{"p(!X) :- q('!'(!.X, a))", "p(!X0, !X0) :- q(!(!X0, a))"},
		// =
		row{"p(!X) :- !:X = f(!.X)", "p(!X0, !X1) :- Same(!X1, f(!X0))"}, row{"p(!X) :- !.X = !:X", "p(!X0, !X1) :- Same(!X0, !X1)"}, row{"p(!X) :- !:X = !:X", "p(!X0, !X1) :- Same(!X1, !X1)"}, row{"p(!X) :- !:X \\= 1, q(!X)", "p(!X0, !X2) :- And(Not(Same(!X1, 1)), q(!X0, !X2))"}, row{"p(!X, !Y) :- !:X = !.Y, !:Y = !.X", "p(!X0, !X1, !Y0, !Y1) :- And(Same(!X1, !Y0), Same(!Y1, !X1))"},
		// closures
		row{"p(!X) :- P(!X), call(q, !X)", "p(!X0, !X2) :- And(Higher(P, !X0, !X1), Higher(q, !X1, !X2))"}, row{"p(!X) :- call(!.F, !X, !:F)", "p(!X0, !X1) :- Higher(!F0, !X0, !X1, !F1)"}, row{"p(!F) :- call(!F)", "p(!F0, !F1) :- Higher(!F0, !F1)"}, row{"p :- P(f(!:X)), call(!.X)", "p :- And(Higher(P, f(!X1)), Higher(!X1))"},
		// fields
		row{"p(!X) :- !:X = !.X ^ f := 1", "p(!X0, !X1) :- Same(!X1, ^f:=(!X0, 1))"}, row{"p(!X) :- !:X = !.X ^ f ^ g := !.Y ^ h", "p(!X0, !X1) :- Same(!X1, ^f:=(!X0, ^g:=(^f(!X0), ^h(!Y0))))"}, row{"p :- q(!:X ^ f ^ g := 1)", "p :- q(^f:=(!X1, ^g:=(^f(!X1), 1)))"},
		// heads
		row{"p(!X)", "p(!X0, !X0) :- And()"}, row{"p(!.X)", "p(!X0) :- And()"}, row{"p(!:X)", "p(!X0) :- And()"}, row{"p(!:X, !.X) :- q(!X)", "p(!X1, !X0) :- q(!X0, !X1)"}, row{"p(f(!.X), g(!:X), [!:X]) :- q(!X)", "p(f(!X0), g(!X1), [|](!X1, [])) :- q(!X0, !X1)"}, row{"p(!X, !X) :- q(!X)", "p(!X0, !X1, !X0, !X1) :- q(!X0, !X1)"}, row{"p(!.X ^ f, !:X ^ g ^ h := 1) :- q(!X)", "p(^f(!X0), ^g:=(!X1, ^h:=(^g(!X1), 1))) :- q(!X0, !X1)"},
		row{"f(!X) = Y :- q(!X, Y)", "f(!X0, !X1) = Y :- q(!X0, !X1, Y)"}, row{"f(!.X) = !:X :- q(!X)", "f(!X0) = !X1 :- q(!X0, !X1)"}, row{"f = g(!.X, !:X) :- q(!X)", "f = g(!X0, !X1) :- q(!X0, !X1)"}, row{"f(a) = !X :- q(!X)", "f(a, !X0) = !X1 :- q(!X0, !X1)"},
	)
}

// P5.1: versions in goals with goals in them.
func TestStatesInGoals(t *testing.T) {
	wantClauses(t,
		// side by side
		row{"p(!X) :- q(!X) & r(!X), s(!X)", "p(!X0, !X3) :- Par(q(!X0, !X1), And(r(!X1, !X2), s(!X2, !X3)))"}, row{"p(!X) :- (q(!X), r(!.X)), s(!X)", "p(!X0, !X2) :- And(q(!X0, !X1), r(!X1), s(!X1, !X2))"},
		// alternatives
		row{"p(!X) :- q(!X) ; r(!X), s(!X) ; t", "p(!X0, !X4) :- Or(And(q(!X0, !X1), Same(!X4, !X1)), And(And(r(!X0, !X2), s(!X2, !X3)), Same(!X4, !X3)), And(t, Same(!X4, !X0)))"},
		row{"p(!X, !Y) :- q(!Y) ; r(!X)", "p(!X0, !X2, !Y0, !Y2) :- Or(And(q(!Y0, !Y1), Same(!X2, !X0), Same(!Y2, !Y1)), And(r(!X0, !X1), Same(!X2, !X1), Same(!Y2, !Y0)))"}, row{"p :- ( q(!Y) ; r(!X) ), s(!X, !Y)", "p :- And(Or(And(q(!Y0, !Y1), Same(!Y2, !Y1), Same(!X2, !X0)), And(r(!X0, !X1), Same(!Y2, !Y0), Same(!X2, !X1))), s(!X2, !X3, !Y2, !Y3))"},
		row{"p(!X) :- q(!.X) ; r", "p(!X0, !X0) :- Or(q(!X0), r)"}, row{"p(!X, !Y) :- q(!.X, !Y) ; r(!.X)", "p(!X0, !X0, !Y0, !Y2) :- Or(And(q(!X0, !Y0, !Y1), Same(!Y2, !Y1)), And(r(!X0), Same(!Y2, !Y0)))"}, row{"p(!X) :- q(!X) ; fail", "p(!X0, !X2) :- Or(And(q(!X0, !X1), Same(!X2, !X1)), And(Or(), Same(!X2, !X0)))"},
		row{"p(!X) :- ( q(!X) ; r ), s(!X) ; t", "p(!X0, !X4) :- Or(And(And(Or(And(q(!X0, !X1), Same(!X2, !X1)), And(r, Same(!X2, !X0))), s(!X2, !X3)), Same(!X4, !X3)), And(t, Same(!X4, !X0)))"}, row{"p(!X) :- q(!X), ( r ; s(!X) ), t(!X)", "p(!X0, !X4) :- And(q(!X0, !X1), Or(And(r, Same(!X3, !X1)), And(s(!X1, !X2), Same(!X3, !X2))), t(!X3, !X4))"},
		// conditions
		row{"p(!X) :- ( a -> !:X = 1 ; true )", "p(!X0, !X2) :- If(a, And(Same(!X1, 1), Same(!X2, !X1)), And(And(), Same(!X2, !X0)))"}, row{"p(!X) :- q(!X) -> r(!X) ; s(!X)", "p(!X0, !X4) :- If(q(!X0, !X1), And(r(!X1, !X2), Same(!X4, !X2)), And(s(!X0, !X3), Same(!X4, !X3)))"}, row{"p(!X) :- if q(!X) then true else true", "p(!X0, !X2) :- If(q(!X0, !X1), And(And(), Same(!X2, !X1)), And(And(), Same(!X2, !X0)))"}, row{"p(!X) :- ( q(!X) -> r(!.X) ), s(!X)", "p(!X0, !X3) :- And(If(q(!X0, !X1), And(r(!X1), Same(!X2, !X1)), And(Or(), Same(!X2, !X0))), s(!X2, !X3))"},
		row{"p(!X) :- q(!.X) -> r(!.X) ; s", "p(!X0, !X0) :- If(q(!X0), r(!X0), s)"}, row{"p(!X, !Y) :- if q(!Y) then r(!X) else s", "p(!X0, !X2, !Y0, !Y2) :- If(q(!Y0, !Y1), And(r(!X0, !X1), Same(!X2, !X1), Same(!Y2, !Y1)), And(s, Same(!X2, !X0), Same(!Y2, !Y0)))"},
		row{"p(!X) :- a -> q(!X) ; b -> r(!X) ; s", "p(!X0, !X4) :- If(a, And(q(!X0, !X1), Same(!X4, !X1)), And(If(b, And(r(!X0, !X2), Same(!X3, !X2)), And(s, Same(!X3, !X0))), Same(!X4, !X3)))"},
		// not
		row{"p(!X) :- \\+ q(!X), r(!X)", "p(!X0, !X2) :- And(Not(q(!X0, !X1)), r(!X0, !X2))"}, row{"p(!X) :- q(!X), not (r(!X), s(!X)), t(!.X)", "p(!X0, !X1) :- And(q(!X0, !X1), Not(And(r(!X1, !X2), s(!X2, !X3))), t(!X1))"}, row{"p(!X) :- \\+ q(!X) ; r", "p(!X0, !X0) :- Or(Not(q(!X0, !X1)), r)"}, row{"p(!X) :- ( \\+ q(!X) -> r(!X) ; s )", "p(!X0, !X3) :- If(Not(q(!X0, !X1)), And(r(!X0, !X2), Same(!X3, !X2)), And(s, Same(!X3, !X0)))"},
		// some
		row{"p(!X) :- some [!X] q(!X), r(!X)", "p(!X0, !X3) :- And(Some([!X1 !X2] q(!X1, !X2)), r(!X0, !X3))"}, row{"p :- some [!X, Y, !Z] ( !:X = Y, q(!X, !.Z) )", "p :- Some([!X1 !X2 !X3 Y !Z1] And(Same(!X2, Y), q(!X2, !X3, !Z1)))"}, row{"p(!X, !Y) :- some [!X] q(!X, !Y), r(!X, !Y)", "p(!X0, !X3, !Y0, !Y2) :- And(Some([!X1 !X2] q(!X1, !X2, !Y0, !Y1)), r(!X0, !X3, !Y1, !Y2))"}, row{"p(!X) :- some [Y] q(!X, Y), r(!X)", "p(!X0, !X2) :- And(Some([Y] q(!X0, !X1, Y)), r(!X1, !X2))"},
		row{"p :- some [!X] ( q(!X), some [!X] r(!X), s(!X) )", "p :- Some([!X1 !X2 !X3 !X4 !X5] And(q(!X1, !X2), Some([!X3 !X4] r(!X3, !X4)), s(!X2, !X5)))"}, row{"p :- some [!X] ( q(!X) ; r )", "p :- Some([!X1 !X2 !X3] Or(And(q(!X1, !X2), Same(!X3, !X2)), And(r, Same(!X3, !X1))))"}, row{"p(!X) :- some [!X] q(!X) ; r", "p(!X0, !X0) :- Or(Some([!X1 !X2] q(!X1, !X2)), r)"}, row{"p(!X) :- q(!X), some [!X] r, s(!.X)", "p(!X0, !X1) :- And(q(!X0, !X1), Some([!X2] r), s(!X1))"}, row{"p :- some [!X, !X] q(!X)", "p :- Some([!X1 !X2 !X1 !X2] q(!X1, !X2))"}, row{"p(!X) :- some [X] q(!X, X)", "p(!X0, !X1) :- Some([X] q(!X0, !X1, X))"}, row{"p :- some [!_] q(!.X, !._)", "p :- Some([!_1] q(!X0, !_1))"},
	)
}

// P5.1: versions in and around lambda goals.
func TestStatesInLambdas(t *testing.T) {
	wantClauses(t,
		row{"p(!X) :- q(!X), r((pred(Y::in) is det :- s(!.X, Y)))", "p(!X0, !X1) :- And(q(!X0, !X1), r(#0)) | #0(Y::in) det :- s(!X1, Y)"}, row{"p(!X) :- q((pred(Y::in) is det :- r(!X, Y))), s(!X)", "p(!X0, !X2) :- And(q(#0), s(!X0, !X2)) | #0(Y::in) det :- r(!X0, !X1, Y)"}, row{"p(!X) :- q((pred(Y::in) is det :- r(!X, Y)), !X)", "p(!X0, !X2) :- q(#0, !X0, !X2) | #0(Y::in) det :- r(!X0, !X1, Y)"}, row{"p(!X) :- q(!X, (pred(Y::in) is det :- r(!X, Y)))", "p(!X0, !X2) :- q(!X0, !X2, #0) | #0(Y::in) det :- r(!X0, !X1, Y)"},
		// among the arguments
		row{"p(!X) :- q((pred(!X::in) is det :- r(!X))), s(!X)", "p(!X0, !X3) :- And(q(#0), s(!X0, !X3)) | #0(!X1::in, !X2::in) det :- r(!X1, !X2)"}, row{"p :- q((pred(!.X::in, Y::in, !:X::out) is det :- r(!X, Y)))", "p :- q(#0) | #0(!X1::in, Y::in, !X2::out) det :- r(!X1, !X2, Y)"}, row{"p :- q((pred(!X::m(a)) is det :- true))", "p :- q(#0) | #0(!X1::m(a), !X1::m(a)) det :- And()"}, row{"p :- q((pred(!:X::out) is det :- !:X = 1))", "p :- q(#0) | #0(!X2::out) det :- Same(!X2, 1)"}, row{"p :- q((pred(!.X::in) is det :- r(!X)))", "p :- q(#0) | #0(!X1::in) det :- r(!X1, !X2)"}, row{"p :- q((pred(!:X::out, !X::m, !.X::in) is det :- r(!X)))", "p :- q(#0) | #0(!X2::out, !X1::m, !X2::m, !X1::in) det :- r(!X1, !X2)"}, row{"p(!Y) :- q((pred(!X::in) is det :- r(!X, !Y)), !Y)", "p(!Y0, !Y2) :- q(#0, !Y0, !Y2) | #0(!X1::in, !X2::in) det :- r(!X1, !X2, !Y0, !Y1)"},
		// within an argument
		row{"p(!X) :- q(!X), r((pred(f(!.X)::in, g(!:X)::out) is det :- s(!X)))", "p(!X0, !X1) :- And(q(!X0, !X1), r(#0)) | #0(f(!X1)::in, g(!X2)::out) det :- s(!X1, !X2)"}, row{"p(!X) :- q((pred(f(!.X)::in, !X::out) is det :- s(!X)))", "p(!X0, !X0) :- q(#0) | #0(f(!X1)::in, !X1::out, !X2::out) det :- s(!X1, !X2)"},
		// in one another
		row{"p :- q((pred(!X::in) is det :- r((pred(Y::in) is det :- s(!X, Y)), !X)))", "p :- q(#0) | #0(!X1::in, !X3::in) det :- r(#1, !X1, !X3) | #1(Y::in) det :- s(!X1, !X2, Y)"}, row{"p(!X) :- q((pred(!X::in) is det :- r((pred(!X::in) is det :- s(!X))), t(!X)))", "p(!X0, !X0) :- q(#0) | #0(!X1::in, !X4::in) det :- And(r(#1), t(!X1, !X4)) | #1(!X2::in, !X3::in) det :- s(!X2, !X3)"}, row{"p :- q((pred((pred(!.X::in) is det :- r(!.X))::in, !.X::in) is det :- s(!.X)))", "p :- q(#0) | #0(#1::in, !X1::in) det :- s(!X1) | #1(!X2::in) det :- r(!X2)"},
		// with other goals
		row{"p :- some [!X] q((pred(!X::in) is det :- r(!X)))", "p :- Some([!X1 !X2 !X3] q(#0)) | #0(!X2::in, !X3::in) det :- r(!X2, !X3)"}, row{"p(!X) :- q((pred(Y::in) is det :- r(!X) ; s)) ; t", "p(!X0, !X0) :- Or(q(#0), t) | #0(Y::in) det :- Or(And(r(!X0, !X1), Same(!X2, !X1)), And(s, Same(!X2, !X0)))"}, row{"p(!X) :- !:X = (pred(Y::in) is det :- q(!.X, Y))", "p(!X0, !X1) :- Same(!X1, #0) | #0(Y::in) det :- q(!X0, Y)"},
		// in heads
		row{"p((pred(Y::in) is det :- q(!X, Y)), !X) :- r(!X)", "p(#0, !X0, !X2) :- r(!X0, !X2) | #0(Y::in) det :- q(!X0, !X1, Y)"}, row{"p((pred(!X::in) is det :- q(!X)), !:X) :- r(!X)", "p(#0, !X3) :- r(!X0, !X3) | #0(!X1::in, !X2::in) det :- q(!X1, !X2)"}, row{"f(!X) = (pred(Y::in) is det :- q(!.X, Y)) :- r(!X)", "f(!X0, !X1) = #0 :- r(!X0, !X1) | #0(Y::in) det :- q(!X0, Y)"},
	)
	wantGoals(t,
		row{"q(!X), \\+ r(!X), s(!.X)", "And(q(!X0, !X1), Not(r(!X1, !X2)), s(!X1))"}, row{"q(!X) ; p((pred(Y::in) is det :- r(!X, Y)), !.X)", "Or(And(q(!X0, !X1), Same(!X3, !X1)), And(p(#0, !X0), Same(!X3, !X0))) | #0(Y::in) det :- r(!X0, !X2, Y)"},
	)
}

// P5.1: the clauses of grammars.
func TestGrammars(t *testing.T) {
	wantClauses(t,
		row{"s --> t", "s(!-0, !-1) :- t(!-0, !-1)"}, row{"s(X, f(Y)) --> t(X), u", "s(X, f(Y), !-0, !-2) :- And(t(X, !-0, !-1), u(!-1, !-2))"}, row{"'A b' --> a.b", "A b(!-0, !-1) :- a.b(!-0, !-1)"}, row{"(s, t) --> u", ",(s, t, !-0, !-1) :- u(!-0, !-1)"}, row{"P(X) --> u", "call(P, X, !-0, !-1) :- u(!-0, !-1)"}, row{"'!'(a, b) --> '!'(c, d)", "!(a, b, !-0, !-1) :- !(c, d, !-0, !-1)"},
		row{"s --> true", "s(!-0, !-0) :- And()"}, row{"s --> a, true, b", "s(!-0, !-2) :- And(a(!-0, !-1), And(), b(!-1, !-2))"}, row{"s --> (a, b), c", "s(!-0, !-3) :- And(a(!-0, !-1), b(!-1, !-2), c(!-2, !-3))"},
		row{"s --> (a ; b), c", "s(!-0, !-4) :- And(Or(And(a(!-0, !-1), Same(!-3, !-1)), And(b(!-0, !-2), Same(!-3, !-2))), c(!-3, !-4))"}, row{"s --> a ; []", "s(!-0, !-2) :- Or(And(a(!-0, !-1), Same(!-2, !-1)), And(And(), Same(!-2, !-0)))"}, row{"s --> [] ; {a} ; true", "s(!-0, !-0) :- Or(And(), a, And())"}, row{"s --> (a ; b) ; c", "s(!-0, !-4) :- Or(And(a(!-0, !-1), Same(!-4, !-1)), And(b(!-0, !-2), Same(!-4, !-2)), And(c(!-0, !-3), Same(!-4, !-3)))"},
		row{"s --> a -> b ; c", "s(!-0, !-4) :- If(a(!-0, !-1), And(b(!-1, !-2), Same(!-4, !-2)), And(c(!-0, !-3), Same(!-4, !-3)))"}, row{"s --> if a then b else c", "s(!-0, !-4) :- If(a(!-0, !-1), And(b(!-1, !-2), Same(!-4, !-2)), And(c(!-0, !-3), Same(!-4, !-3)))"}, row{"s --> a -> b", "s(!-0, !-3) :- If(a(!-0, !-1), And(b(!-1, !-2), Same(!-3, !-2)), And(Or(), Same(!-3, !-0)))"}, row{"s --> {a} -> [] ; {b}", "s(!-0, !-0) :- If(a, And(), b)"},
		row{"s --> \\+ a, not b, c", "s(!-0, !-3) :- And(Not(a(!-0, !-1)), Not(b(!-0, !-2)), c(!-0, !-3))"}, row{"s --> some [X] a(X), b", "s(!-0, !-2) :- And(Some([X] a(X, !-0, !-1)), b(!-1, !-2))"}, row{"s --> some [!X] t(!X)", "s(!-0, !-1) :- Some([!X1 !X2] t(!X1, !X2, !-0, !-1))"},
		// what stands for itself, and sequences
		row{"s --> {p, q}, {r}", "s(!-0, !-0) :- And(And(p, q), r)"}, row{"s --> {X = Y, X \\= Z, (a & b), fail ; call(X)}, t", "s(!-0, !-1) :- And(Or(And(Same(X, Y), Not(Same(X, Z)), Par(a, b), Or()), Higher(X)), t(!-0, !-1))"}, row{"s --> {{a}}", "s(!-0, !-0) :- {}(a)"}, row{"s --> {\\+ [a]}, {[]}", "s(!-0, !-0) :- And(Not([|](a, [])), [])"}, row{"s --> p({a})", "s(!-0, !-1) :- p({}(a), !-0, !-1)"},
		row{"s --> []", "s(!-0, !-0) :- And()"}, row{"s --> [a]", "s(!-0, !-1) :- Same(!-0, [|](a, !-1))"}, row{"s --> [a, f(X) | [\"b\"]], [1]", "s(!-0, !-2) :- And(Same(!-0, [|](a, [|](f(X), [|](\"b\", !-1)))), Same(!-1, [|](1, !-2)))"}, row{"s --> [[]], [_]", "s(!-0, !-2) :- And(Same(!-0, [|]([], !-1)), Same(!-1, [|](_, !-2)))"}, row{"s --> \"ab\"", "s(!-0, !-1) :- Same(!-0, [|](0'a, [|](0'b, !-1)))"}, row{"s --> \"\", \"x\"", "s(!-0, !-1) :- And(And(), Same(!-0, [|](0'x, !-1)))"}, row{"s --> [\"ab\"]", "s(!-0, !-1) :- Same(!-0, [|](\"ab\", !-1))"},
		// closures and calls
		row{"s --> X", "s(!-0, !-1) :- Higher(X, !-0, !-1)"}, row{"s --> P(1), call(q), call(1, 2)", "s(!-0, !-3) :- And(Higher(P, 1, !-0, !-1), Higher(q, !-1, !-2), Higher(1, 2, !-2, !-3))"}, row{"s --> call", "s(!-0, !-1) :- call(!-0, !-1)"},
		row{"s --> fail, false", "s(!-0, !-2) :- And(fail(!-0, !-1), false(!-1, !-2))"}, row{"s --> a & b", "s(!-0, !-1) :- &(a, b, !-0, !-1)"}, row{"s --> X = Y, X \\= Y, X < Y", "s(!-0, !-3) :- And(=(X, Y, !-0, !-1), \\=(X, Y, !-1, !-2), <(X, Y, !-2, !-3))"},
		// with other state variables
		row{"s(!X) --> t(!X), {u(!X)}, [!.X]", "s(!X0, !X2, !-0, !-2) :- And(t(!X0, !X1, !-0, !-1), u(!X1, !X2), Same(!-1, [|](!X2, !-2)))"}, row{"s --> [!.X, !:X], t(!.X)", "s(!-0, !-2) :- And(Same(!-0, [|](!X0, [|](!X1, !-1))), t(!X1, !-1, !-2))"}, row{"s --> t(!X) ; u", "s(!-0, !-3) :- Or(And(t(!X0, !X1, !-0, !-1), Same(!-3, !-1), Same(!X2, !X1)), And(u(!-0, !-2), Same(!-3, !-2), Same(!X2, !X0)))"}, row{"s(!X) --> t(!X) ; u", "s(!X0, !X2, !-0, !-3) :- Or(And(t(!X0, !X1, !-0, !-1), Same(!X2, !X1), Same(!-3, !-1)), And(u(!-0, !-2), Same(!X2, !X0), Same(!-3, !-2)))"},
	)
}
