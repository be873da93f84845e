package steps

import (
	"fmt"
	"strings"
	"testing"

	"cinnabar/api"
	"cinnabar/terms"
)

// marked takes a § out of a text, and returns its place, or 0.
func marked(text string) (string, int) {
	if before, behind, ok := strings.Cut(text, "§"); ok {
		return before + behind, len(before)
	}
	return text, 0
}

// isZero reports whether a clause is the zero one.
func isZero(c api.Clause) bool {
	return identicalClauses(c, api.Clause{})
}

// wantFaults checks the faults of clauses, which are at the § in each of them.
func wantFaults(t *testing.T, code api.Errno, texts ...string) {
	t.Helper()
	for _, x := range texts {
		text, at := marked(x)
		c, f := Clause(parse(t, text))
		if want := (api.Fault{At: at, Code: code}); f != want || !isZero(c) {
			t.Errorf("%s: %v, not %v (%s)", x, f, want, clauseLine(c))
		}
	}
}

// wantGoalFaults likewise checks those of goals, alone and in clauses.
func wantGoalFaults(t *testing.T, code api.Errno, texts ...string) {
	t.Helper()
	for _, x := range texts {
		text, at := marked(x)
		s, lams, f := Goal(parse(t, text))
		if want := (api.Fault{At: at, Code: code}); f != want || !identicalSteps(s, api.Step{}) || len(lams) > 0 {
			t.Errorf("%s: %v, not %v", x, f, want)
		}
		wantFaults(t, code, "p(!X) :- ( "+x+" )")
	}
}

// P5.1: heads that are none, and what cannot stand in them.
func TestHeadFaults(t *testing.T) {
	wantFaults(t, api.ErrSyntax, "§X :- p", "§_ :- p", "§1 :- p", "§0'a :- p", "§\"p\" :- p", "§X", "§1", "§\"p\"", "§X --> p", "§1 --> 2", "§!X :- p", "§!.X :- p", "§!:X :- p", "§!X", "§!X --> p", "§'!'(1) :- 1", "§'!:'(f(X))")
	wantFaults(t, api.ErrSyntax, "§X = Y", "§1 = Y :- p", "§\"f\" = 1", "§P(X) = Y", "§P(X) = Y :- p", "§call(X) = 1", "§!X = Y :- p", "§!.X = Y", "§!:X = 1", "§'!'(f) = 1", "f(X) §= Y --> z", "X §= Y --> z", "§'='(a, b) --> c")
	wantFaults(t, api.ErrSyntax, "§! --> a", "§'!:' --> a", "§'!:' --> 1")
	wantFaults(t, api.ErrSyntax, "p(f(§!X)) :- q(!X)", "p(a, [b, §!X | c])", "p(§'!'(1))", "p(§'!'(f(X)), 2)", "p(§'!:'(1)) :- 2", "p(f(§'!:'(a)))", "f(g(§!X)) = !X", "f(a) = g(§!X)", "p(§!X ^ f)", "p(X ^ f := §!X)", "p(§!X ^ f ^ g := 1)", "p(a) = b(§!X) :- 1", "p(f(§!X)) --> 1", "p((pred(f(§!X)::in) is det :- 1)) :- 2")
	wantFaults(t, api.ErrSyntax, "p(a) :- §1", "f(X) = Y :- §\"a\"", "p :- (a §:- b)", "p --> (a §:- b)", "p --> §1")
}

// P5.1: goals that are none, and what cannot stand in them.
func TestGoalFaults(t *testing.T) {
	wantGoalFaults(t, api.ErrSyntax, "§1", "§-1", "§0'a", "§\"a\"", "a, §1, 2", "(a, §1), 2", "a ; b ; §1", "a & §0'a & 1", "\\+ §1", "not §\"a\"", "\\+ \\+ (a, §1)", "a, (b ; c, §1)", "§1, X \\= !X")
	wantGoalFaults(t, api.ErrSyntax, "(a §:- b)", "(a §--> b)", "(§:- a)", "§':-'", "§'-->'(a, b, c)", "§if a then b", "a, (§if a then b), 1", "a §then b", "a §else b", "(if a) §else b", "(§if a)", "§if", "§if(a, b)", "§then", "§else", "§where", "a §where b", "a §== b", "§==(a)", "§'=='", "§else(a)", "(§if a then b) , c", "\\+ §if")
	// In the order of the text what is wrong in a form comes behind the form.
	wantGoalFaults(t, api.ErrSyntax, "(if a) §else 1", "(if (§if a then b) then c else 1)", "§1 -> 2 ; 3", "a -> §2 ; 3", "a -> b ; §3", "a -> §1", "§1 -> a", "if §1 then 2 else 3", "if a then §2 else 3", "if a then b else §3", "a -> b ; c -> §1 ; 2", "a ; b -> §1")
	wantGoalFaults(t, api.ErrSyntax, "some §X a", "some §x a", "some §1 a", "some §\"X\" 1", "some [§_] a", "some [X, §_] 1", "some [§a] b", "some [§1] b", "some [X, §f(X), 1] b", "some [X | §Y] a", "some [X | §a] 1", "some [§!.X] a", "some [§!:X] a", "some [§'!'(1)] a", "some [§'!'(f(X))] a", "some [§[]] a", "some [X] §1", "some [!X] §1", "some [X] \\+ §0'a", "some §{X} a")
	wantGoalFaults(t, api.ErrSyntax, "§!X", "§!.X", "§!:X", "\\+ §!X", "a, §!:X", "§!X = 1", "X = §!X", "X \\= f(§!X)", "§!X \\= 1", "f(§!X) = !X", "q(f(§!X))", "q([§!X])", "q(!X, f(g(§!X)))", "P(f(§!X))", "call(f(§!X))", "§'!'(1)", "§'!'(f(X))", "§'!:'(1)", "q(§'!'(1))", "q(§'!:'(1))", "q(§'!'(!X))", "q(§!X ^ f)", "q(§!X ^ f := 1)", "q(X ^ f ^ g := §!X)", "q('!'(§!X, a))")
}

// P5.1: lambda goals that are wrong.
func TestLambdaFaults(t *testing.T) {
	wantGoalFaults(t, api.ErrSyntax, "p((pred(§X) is det :- q))", "p((pred(X::in, §Y) is foo :- q))", "p((pred(§::(X)) is det :- q))", "p((pred(X::in, Y §- in) is det :- q))", "p((§pred is det :- q))", "p((pred(X::in) is §foo :- 1))", "p((pred(X::in) is §X :- q))", "p((pred(X::in) is §det(a) :- q))", "p((pred(X::in) is §\"det\" :- q))", "p((pred(X::in) is §1 :- q))", "p((pred(X::in) is det :- §1))", "p((pred(X::in) is det :- a, §1)), 2", "p((pred(X::in) is det :- §if a then b))", "p((pred(X::in) is det :- q((pred(§Y) is det :- r))))", "p((pred((pred(Y::in) is §a :- r)::in, X) is b :- 1))")
	wantGoalFaults(t, api.ErrSyntax, "p((pred(f(§!X)::in) is foo :- q))", "p((pred(§'!'(1)::in) is det :- q))", "p((pred(X::in, §!X ^ f::in) is det :- 1))", "p((pred(X :: §!X) is det :- q))", "p((pred(X::f(§!.X)) is det :- q))", "p((pred(!X::in, Y::[§!:X]) is foo :- q))", "p((pred(X::f('!'(a, §'!'(1)))) is det :- q))", "p((pred(!X::in) is det :- §!X))", "p((pred(!X::in) is det :- q(f(§!X))))", "p(f((pred(X::in) is det :- q(f(§!X)))))")
}

// P5.1: what cannot stand in a grammar.
func TestGrammarFaults(t *testing.T) {
	for _, x := range []string{"§1", "§0'a", "a, §1", "[a | §b]", "[a, b | §X]", "[a | §\"b\"]", "[a, f(§!X) | b]", "[§!X]", "[a, §'!'(1) | b]", "§!", "a, §!", "§'!:'", "§!X", "§!.X", "§!:X", "§'!'(1)", "{§1}", "{a, §!X}", "{a, §\"b\"}", "{f(a), q(f(§!X))}", "(a §:- b)", "(a §--> b)", "(a §where b)", "(a §== b)", "(§if a then b)", "(a §then b)", "(a §else b)", "\\+ §1", "not §0'a", "(a ; §1)", "(§1 -> 2 ; 3)", "(a -> §2 ; 3)", "(a -> b ; §3)", "(if a then b else §1)", "some [§1] 2", "some [X] §2", "p(f(§!X))", "P(f(§!X))", "(a, b(§'!:'(X + Y)))", "p((pred(X::in) is det :- §1))"} {
		wantFaults(t, api.ErrSyntax, "s(X) --> "+x)
	}
}

// P5.1: the error of terms.Check comes first, at the term.
func TestCheckFaults(t *testing.T) {
	for i, x := range []struct {
		term api.Term
		want api.Errno
	}{
		{app(":-", variab("X"), api.Term{Kind: 9, At: 3}), api.ErrKind}, {app("p", lamb(0)), api.ErrKind}, {lamb(0), api.ErrKind}, {app(":-", num(1), app("", num(1))), api.ErrForm}, {app(":-", num(1), app("p", num(api.MaxInt+1))), api.ErrRange}, {app("p", variab("!X0")), api.ErrForm}, {app(":-", num(1), app(strings.Repeat("a", api.MaxName+1))), api.ErrLimit}, {app("p", manyTerms(33)...), api.ErrLimit}, {deepTerm(65), api.ErrLimit}, {app(":-", app("p"), deepTerm(64)), api.ErrLimit}, {app("p", app("!.", num(1))), api.ErrForm}, {api.Term{Kind: api.TVar}, api.ErrForm},
	} {
		x.term.At = 77
		c, f := Clause(x.term)
		s, lams, g := Goal(x.term)
		if want := (api.Fault{At: 77, Code: x.want}); f != want || g != want || !isZero(c) || !identicalSteps(s, api.Step{}) || len(lams) > 0 || terms.Check(x.term) != x.want {
			t.Error(i, f, g)
		}
	}
	if c, f := Clause(deepTerm(64)); f.Code != api.OK || c.Name != "f" {
		t.Error(f)
	}
	if s, _, f := Goal(deepTerm(64)); f.Code != api.OK || s.Name != "f" {
		t.Error(f)
	}
}

func manyTerms(n int) []api.Term {
	l := make([]api.Term, n)
	for i := range l {
		l[i] = app("a")
	}
	return l
}

// deepTerm returns a term that is nested so deep.
func deepTerm(n int) api.Term {
	t := app("a")
	for range n - 1 {
		t = app("f", t)
	}
	return t
}

// manyOf returns a number of texts with commas, each with its number in the place of the #.
func manyOf(n int, text string) string {
	var l []string
	for i := range n {
		l = append(l, strings.ReplaceAll(text, "#", fmt.Sprint(i)))
	}
	return strings.Join(l, ", ")
}

// P5.1: arguments that are too many.
func TestTooManyArguments(t *testing.T) {
	states, terms := manyOf(16, "!A#"), manyOf(30, "a")
	right := []string{
		"p(" + states + ")", "p(" + terms + ", a, b)", "p(" + terms + ", !X)", "f(" + terms + ", a) = b", "f(" + terms + ") = !X", "f(" + manyOf(15, "!A#") + ", a) = b", "p(" + terms + ") --> a", "p(" + manyOf(15, "!A#") + ") --> a",
		"p :- q(" + states + ")", "p :- q(" + terms + ", !X)", "p :- P(" + terms + ", a)", "p :- P(" + manyOf(15, "!A#") + ", a)", "p :- call(" + states + ")", "p --> q(" + terms + ")", "p --> P(" + manyOf(29, "a") + ")", "p --> call(" + terms + ")",
		"p :- q((pred(" + manyOf(16, "!A#::in") + ") is det :- r))", "p :- q((pred(" + manyOf(32, "a::in") + ") is det :- r))", "p :- f(" + terms + ", !.X, !.X) = 1", "p :- q(f(" + terms + ", !.X, !:X))",
	}
	for _, x := range right {
		if _, f := Clause(parse(t, x)); f.Code != api.OK {
			t.Error(x, f)
		}
	}
	wantFaults(t, api.ErrLimit,
		"§p("+states+", a)", "§p("+states+", !X)", "§p("+terms+", a, !X)", "f("+terms+", a, b) §= c", "f("+terms+", a) §= !X", "f("+states+") §= b", "§p("+terms+", a) --> a", "§p("+states+") --> a", "§P("+terms+", a, b)",
		"p :- §q("+states+", a)", "p :- §q("+terms+", a, !X)", "p :- a, (b ; §q("+states+", !X))", "p :- §P("+terms+", a, b)", "p :- §P("+states+")", "p :- §call("+states+", a)", "p --> a, §q("+terms+", a)", "p --> §q("+states+")", "p --> §P("+terms+")",
		"p :- q((pred("+manyOf(16, "!A#::in")+", a::in) is det §:- r))", "p :- q((pred("+manyOf(17, "!A#::in")+") is det §:- r))", "p((pred("+manyOf(17, "!A#::in")+") is det §:- r)) :- q",
		// the first one
		"§p("+states+", a) :- q("+states+", a)", "p :- §q("+states+", a), r("+states+", a)", "p :- §q("+states+", (pred("+manyOf(17, "!A#::in")+") is det :- r))", "p :- q((pred("+manyOf(17, "!A#::in")+") is det §:- r("+states+", a)))", "p :- q((pred("+manyOf(17, "!A#::in")+") is det §:- r)), s("+states+", a)",
	)
	// All that cannot stand where it does comes before that; the limits of the whole come behind.
	wantFaults(t, api.ErrSyntax, "p("+states+", a) :- §1", "p :- q("+states+", f(§!X))", "p :- q("+states+", a), §1", "p :- q((pred("+manyOf(17, "!A#::in")+") is §a :- r))")
	wantFaults(t, api.ErrLimit, "a :- b, §p("+states+", !X), q(["+manyOf(300, "B#")+"])")
}

// P5.1: variables that are too many. Each version is one, and each _.
func TestTooManyVariables(t *testing.T) {
	for _, x := range []string{
		"p([#]) :- q", "p :- q([#])", "p :- x = f([#])", "f([#]) = 1", "p :- \\+ call(q, [#])", "p :- q((pred([#]::in) is det :- r))", "p :- q((pred(x::in([#])) is det :- r))", "p :- q((pred(x::in) is det :- r([#])))", "p((pred(x::in) is det :- r([#])))", "p :- q([#]), r([#])", "p :- some [#] q",
	} {
		wantVariables(t, x)
	}
	right := []string{
		// versions
		"p(!X) :- " + manyOf(199, "q(!X)"), "p(!X, !Y) :- " + manyOf(198, "q(!X)"), "p :- " + manyOf(200, "q(!:X)"), "p :- " + manyOf(200, "q(!:X#)"), "p :- " + manyOf(500, "q(!.X)"), "p --> " + manyOf(199, "a"), "p --> " + manyOf(199, "[a]"), "p(!X) :- " + manyOf(99, "( q(!X) ; r )") + ", s(!X)", "p :- " + manyOf(200, "some [!X] q"), "p :- " + manyOf(199, "\\+ q(!X)"), "p :- " + manyOf(100, "q((pred(!X::in) is det :- r(!X)))"), "p --> {q([" + manyOf(199, "X#") + "])}",
		"p(X, X, X) :- q(X, _)", "p :- q([" + manyOf(190, "_") + "]), r([" + manyOf(10, "_") + "])", "p :- q([" + manyOf(100, "_") + "] ^ f ^ g := 1)", "p :- q([" + manyOf(199, "X#") + ", _])", "p :- q((pred(!X::[" + manyOf(99, "_") + "]) is det :- r))",
	}
	for _, x := range right {
		if _, f := Clause(parse(t, x)); f.Code != api.OK {
			t.Error(x, f)
		}
	}
	wantFaults(t, api.ErrLimit,
		"p(!X) §:- "+manyOf(200, "q(!X)"), "p(!X, !Y) §:- "+manyOf(199, "q(!X)"), "p §:- "+manyOf(201, "q(!:X)"), "p §--> "+manyOf(200, "a"), "p §--> "+manyOf(200, "[a]"), "p(!X) §:- "+manyOf(100, "( q(!X) ; r )"), "p §:- "+manyOf(201, "some [!X] q"), "p §:- "+manyOf(200, "\\+ q(!X)"), "p §:- "+manyOf(100, "q((pred(!X::in) is det :- r(!X)))")+", q(!.X)", "p §--> {q(["+manyOf(200, "X#")+"])}",
		"p §:- q(["+manyOf(190, "_")+"]), r(["+manyOf(11, "_")+"])", "p §:- q(["+manyOf(101, "_")+"] ^ f ^ g := 1)", "p §:- q(["+manyOf(200, "X#")+", _])", "p §:- q((pred(!X::["+manyOf(100, "_")+"]) is det :- r))",
	)
	wantFaults(t, api.ErrSyntax, "p :- q(["+manyOf(300, "X#")+"]), §1", "p :- q(["+manyOf(300, "_")+"] ^ f ^ g := f(§!X))")
}

// wantVariables checks a text with 200, and with 201 variables in the place of the #: different ones and, unless they would be others at two places, each _.
func wantVariables(t *testing.T, text string) {
	t.Helper()
	names := []string{"V#", "_"}
	if strings.Count(text, "#") > 1 || strings.Contains(text, "some") {
		names = names[:1]
	}
	for _, name := range names {
		if _, f := Clause(parse(t, strings.ReplaceAll(text, "#", manyOf(200, name)))); f.Code != api.OK {
			t.Error(text, f)
		}
		long := parse(t, strings.ReplaceAll(text, "#", manyOf(201, name)))
		if c, f := Clause(long); f != (api.Fault{At: long.At, Code: api.ErrLimit}) || !isZero(c) {
			t.Error(text, f)
		}
	}
}

// nested returns the text of goals that are nested so deep, in a term that is not.
func nested(n int) string {
	if n == 1 {
		return "a"
	}
	if n%2 == 0 {
		return "( b ; " + nested(n-1) + " )"
	}
	return "( c, " + nested(n-1) + " )"
}

// conditions returns the text of so many conditions, each one behind the one before.
func conditions(n int, last string) string {
	return strings.Repeat("a -> b ; ", n) + last
}

// P5.1: goals that are nested too deeply.
func TestNesting(t *testing.T) {
	lambda := func(goal string) string { return "(pred(x::in) is det :- " + goal + ")" }
	for _, x := range []string{
		"p :- " + nested(64), "p :- " + conditions(63, "c"), "p :- " + conditions(62, "c -> d"), "p --> {" + nested(64) + "}", "p :- q(" + lambda(nested(63)) + ")", "p(" + lambda(nested(64)) + ") :- q", "p :- a, q(" + lambda(nested(62)) + ")", "p :- q(" + lambda("r("+lambda(nested(62))+")") + ")", "p :- a, X \\= 1, " + nested(62), "p :- " + nested(63) + ", " + nested(63), "p :- q((pred(" + lambda(nested(63)) + "::in) is det :- r))", "p :- q((pred(" + lambda("a") + "::in) is det :- " + nested(63) + "))",
		"p :- ( q(!X) ; \\+ " + nested(61) + " )", "p(!X) :- " + strings.Repeat("a, (b ; ", 31) + "X \\= 1" + strings.Repeat(")", 31),
	} {
		if c, f := Clause(parse(t, x)); f.Code != api.OK {
			t.Error(x, f, clauseLine(c))
		}
	}
	wantFaults(t, api.ErrLimit, "p §:- "+nested(65), "p §:- "+conditions(64, "c"), "p §:- "+conditions(63, "c -> d"), "p §--> "+nested(65), "p §--> {"+nested(65)+"}", "p §:- q("+lambda(nested(64))+")", "p("+lambda(nested(65))+") §:- q", "p §:- a, q("+lambda(nested(63))+")", "p §:- q("+lambda("r("+lambda(nested(63))+")")+")", "p §:- "+nested(63)+", "+nested(64), "p §:- q((pred("+lambda(nested(64))+"::in) is det :- r))", "p §:- q((pred("+lambda("a")+"::in) is det :- "+nested(64)+"))",
		// A version that an alternative leaves is one more level in it.
		"p §:- ( q(!X) ; "+nested(63)+" )", "p §:- ( q(!X) ; \\+ \\+ "+nested(61)+" )", "p §--> "+nested(64), "p(!X) §:- "+strings.Repeat("a, (b ; ", 31)+"\\+ X \\= 1"+strings.Repeat(")", 31), "p §:- "+conditions(5000, "c"),
	)
	wantFaults(t, api.ErrSyntax, "p :- "+nested(70)+", §1")
	g := parse(t, nested(64))
	if _, _, f := Goal(g); f.Code != api.OK {
		t.Error(f)
	}
	g = parse(t, nested(65))
	if _, _, f := Goal(g); f != (api.Fault{At: g.At, Code: api.ErrLimit}) || g.At == 0 {
		t.Error(f)
	}
}

// P1: terms that are longer than calls can be nested, and paths of which there would be too many copies.
func TestLongTerms(t *testing.T) {
	list, row := app("[]"), app("q")
	for range 300000 {
		list = app("[|]", app("a"), list)
		row = app(",", app("q"), row)
	}
	c, f := Clause(app(":-", app("p", list), row))
	if f.Code != api.OK || len(c.Body.Kids) != 300001 || terms.Size(c.Head[0]) != 600001 {
		t.Error(f)
	}
	if again, e := Term(c); e != api.OK || !terms.Same(again, app(":-", app("p", list), row)) {
		t.Error(e)
	}
	for _, many := range []string{"_", "X", "a"} {
		for range 30 {
			many = "(" + many + " ^ f ^ g := 1)"
		}
		wantFaults(t, api.ErrLimit, "p §:- q("+many+")", "p("+many+") §:- q")
		wantFaults(t, api.ErrSyntax, "p :- q("+many+", f(§!X))")
	}
	path := strings.Repeat(" ^ f", 60)
	c = clauseOf(t, "p :- q(X"+path+" := X"+path+")")
	if n := terms.Size(c.Body.Args[0]); n != 60+61*60/2+61 {
		t.Error(n)
	}
}
