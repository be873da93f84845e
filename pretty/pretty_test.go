package pretty

import (
	"strings"
	"testing"

	"cinnabar/api"
	"cinnabar/terms"
)

// P3.1: variables, numbers, characters and strings, wherever they stand.
func TestSimple(t *testing.T) {
	for _, x := range []struct {
		term api.Term
		want string
	}{
		{variab("X"), "X"}, {variab("_"), "_"}, {variab("_a1"), "_a1"},
		{num(0), "0"}, {num(7), "7"}, {num(-7), "-7"}, {num(api.MaxInt), "4611686018427387903"}, {num(-api.MaxInt), "-4611686018427387903"},
		{char('a'), "0'a"}, {char(' '), "0' "}, {char('~'), "0'~"}, {char('\''), "0''"}, {char('"'), "0'\""}, {char('\\'), "0'\\\\"}, {char('\n'), "0'\\n"}, {char('\t'), "0'\\t"}, {char('%'), "0'%"},
		{str(""), "\"\""}, {str("a b"), "\"a b\""}, {str("\"\\\n\t'"), "\"\\\"\\\\\\n\\t'\""}, {str("/*%"), "\"/*%\""},
		{app("a"), "a"}, {app("m.q"), "m.q"}, {app("m.q", app("a")), "m.q(a)"}, {app("f", app("a"), variab("X"), num(-1)), "f(a, X, -1)"},
		{app("#"), "#"}, {app("#", app("a"), app("b")), "#(a, b)"}, {app(".."), ".."}, {app("\\"), "\\"},
		{app("f", app("g", app("h", variab("X"))), app("k")), "f(g(h(X)), k)"},
	} {
		for _, m := range []int{0, 1, 998, 999, 1000, 1199, 1200} {
			wantTerm(t, x.term, m, x.want)
		}
	}
}

// P3.1: strings that have the bytes of names are no names.
func TestStringsAreNoNames(t *testing.T) {
	for _, s := range []string{"[]", "[|]", "{}", ",", "!", "!:", "-", "=", "some", "call", "X", "1"} {
		x, a, q := str(s), app("a"), "\""+s+"\""
		for _, c := range []struct {
			term api.Term
			want string
		}{
			{x, q}, {app("[|]", x, x), "[" + q + " | " + q + "]"}, {app("[|]", a, app("[|]", x, app("[]"))), "[a, " + q + "]"}, {app("f", x), "f(" + q + ")"}, {app("{}", x), "{" + q + "}"}, {app("call", x, a), "call(" + q + ", a)"},
			{app("not", x), "not " + q}, {app("-", x), "- " + q}, {app("some", x, x), "some " + q + " " + q}, {app("=", x, x), q + " = " + q}, {app(",", x, x), q + ", " + q}, {app("!", x), "!(" + q + ")"},
		} {
			wantTerm(t, c.term, 1200, c.want)
		}
		if got, e := Items([]api.Term{x, app(":-", x, x), app(":-", a, app(",", x, x))}); e != api.OK || got != q+".\n"+q+" :-\n    "+q+".\na :-\n    "+q+",\n    "+q+".\n" {
			t.Errorf("%q: %q %v", s, got, e)
		}
	}
}

// P3.1: names in apostrophes, a comma as a name among them.
func TestNames(t *testing.T) {
	for _, x := range []struct {
		term api.Term
		want string
	}{
		{app("A"), "'A'"}, {app("A", app("b")), "'A'(b)"}, {app("a b", app("c"), app("d")), "'a b'(c, d)"}, {app("it's"), "'it\\'s'"}, {app("\\a"), "'\\\\a'"},
		{app("/*"), "'/*'"}, {app("+/*"), "+/*"}, {app("|"), "'|'"}, {app("(", app("a")), "'('(a)"}, {app(" "), "' '"}, {app("1"), "'1'"}, {app("_"), "'_'"},
		{app(","), "','"}, {app(",", app("a")), "','(a)"}, {app(",", some(3)...), "','(a, a, a)"}, {app(",", app("a"), app("b")), "a, b"},
		{app("f", app(",")), "f(',')"}, {app("=", app(","), app(",")), "(',') = (',')"}, {app("-", app(",")), "- (',')"}, {app(",", app(","), app(",")), "(','), (',')"},
		{app("=", app(",", app("a")), app("b")), "','(a) = b"}, {app("not", app(",", app("a"))), "not ','(a)"}, {app("some", app(",", some(3)...), app("b")), "some ','(a, a, a) b"},
		{app(",,"), "',,'"}, {app("{"), "'{'"}, {app("a,b"), "'a,b'"},
	} {
		wantTerm(t, x.term, 1200, x.want)
	}
	// A dotted name in apostrophes is none: no term has it.
	if s, e := Term(app("a. b"), 1200); e != api.ErrForm || s != "" {
		t.Error(s, e)
	}
}

// P3.1: lists, with and without a bar.
func TestLists(t *testing.T) {
	for _, x := range [][2]string{
		{"[]", "[]"}, {"[ a ]", "[a]"}, {"[a,b,c]", "[a, b, c]"}, {"[a|B]", "[a | B]"}, {"[a,b|c]", "[a, b | c]"}, {"[a|[]]", "[a]"}, {"[a|[b]]", "[a, b]"}, {"[a|[b|C]]", "[a, b | C]"},
		{"[[],[a],[[]]]", "[[], [a], [[]]]"}, {"[[a|b]|c]", "[[a | b] | c]"}, {"[[]|[]]", "[[]]"}, {"'[|]'(a,'[|]'(b,c))", "[a, b | c]"}, {"'[]'", "[]"},
		{"[a = b, not c, (d, e), (f :- g)]", "[a = b, not c, (d, e), (f :- g)]"}, {"[a | (b, c)]", "[a | (b, c)]"}, {"[a | b = c]", "[a | b = c]"}, {"[(a;b)|(c;d)]", "[(a ; b) | (c ; d)]"},
		{"[- 1, - , -(1)]", "[-1, -, -(1)]"}, {"[a | -]", "[a | -]"}, {"[- | =]", "[- | =]"}, {"[\"a\"|0'b]", "[\"a\" | 0'b]"}, {"[a | {b}]", "[a | {b}]"}, {"[a|f([])]", "[a | f([])]"},
		{"[] = [a]", "[] = [a]"}, {"- []", "- []"}, {"not [a]", "not [a]"}, {"some [X, Y] p(X, Y)", "some [X, Y] p(X, Y)"}, {"[some [X] p, X]", "[some [X] p, X]"},
	} {
		wantTerm(t, must(t, x[0]), 1200, x[1])
	}
}

// P3.1: braces permit all.
func TestBraces(t *testing.T) {
	for _, x := range [][2]string{
		{"{a}", "{a}"}, {"'{}'( X )", "{X}"}, {"{a,b}", "{a, b}"}, {"{a:-b}", "{a :- b}"}, {"{ :- a}", "{:- a}"}, {"{{a;b}}", "{{a ; b}}"}, {"{-}", "{-}"}, {"{ := }", "{:=}"}, {"{(:-)}", "{:-}"},
		{"{a} = {b}", "{a} = {b}"}, {"- {a}", "- {a}"}, {"{[a]}", "{[a]}"}, {"{','}", "{','}"}, {"some {a} {b}", "some {a} {b}"}, {"f({a, b})", "f({a, b})"},
	} {
		wantTerm(t, must(t, x[0]), 1200, x[1])
	}
}

// P3.1: marks directly in front of a variable, and those with other arguments.
func TestMarks(t *testing.T) {
	x, y := variab("X"), variab("_y")
	for _, c := range []struct {
		term api.Term
		want string
	}{
		{app("!", x), "!X"}, {app("!.", x), "!.X"}, {app("!:", x), "!:X"}, {app("!", y), "!_y"}, {app("!.", y), "!._y"}, {app("!:", y), "!:_y"},
		{app("!"), "!"}, {app("!:"), "'!:'"}, {app("!", app("a")), "!(a)"}, {app("!:", app("a")), "'!:'(a)"}, {app("!", x, y), "!(X, _y)"}, {app("!:", x, y), "'!:'(X, _y)"},
		{app("!", num(1)), "!(1)"}, {app("!", app("!", x)), "!(!X)"}, {app("=", app("!:", x), app("+", app("!.", x), num(1))), "!:X = !.X + 1"},
		{app("f", app("!", x), app("!", y), app("!")), "f(!X, !_y, !)"}, {app("-", app("!.", x)), "- !.X"}, {app("^", app("!.", x), app("!", y)), "!.X ^ !_y"},
		{app("not", app("!")), "not !"}, {app(",", app("!"), x), "!, X"}, {app("=", app("!:"), x), "'!:' = X"}, {app("[|]", app("!"), x), "[! | X]"}, {app("{}", app("!")), "{!}"},
	} {
		wantTerm(t, c.term, 1200, c.want)
	}
}

// P3.1: call is not written where a variable stands in front.
func TestClosures(t *testing.T) {
	x := variab("X")
	for _, c := range []struct {
		term api.Term
		want string
	}{
		{app("call"), "call"}, {app("call", x), "call(X)"}, {app("call", x, app("a")), "X(a)"}, {app("call", x, app("a"), x), "X(a, X)"}, {app("call", app("q"), x), "call(q, X)"},
		{app("call", num(1), x), "call(1, X)"}, {app("call", str("X"), x), "call(\"X\", X)"}, {app("call", app("X"), x), "call('X', X)"}, {app("call", app("call", x, x), x), "call(X(X), X)"},
		{app("call", x, app(",", x, x)), "X((X, X))"}, {app("call", x, app("=", x, x)), "X(X = X)"}, {app("call", x, app("-"), app("mod")), "X(-, mod)"},
		{app("-", app("call", x, x)), "- X(X)"}, {app("=", app("call", x, x), app("call", x, x)), "X(X) = X(X)"}, {app("some", app("call", x, x), app("call", x, x)), "some X(X) X(X)"},
		{app("calls", x, x), "calls(X, X)"},
	} {
		wantTerm(t, c.term, 1200, c.want)
	}
	args := append([]api.Term{x}, some(api.MaxArgs)...)
	wantTerm(t, app("call", args...), 1200, "X("+strings.Repeat("a, ", api.MaxArgs-1)+"a)")
}

// spaced returns an infix operator with its blanks.
func spaced(name string) string {
	if name == "," {
		return ", "
	}
	return " " + name + " "
}

// inBrackets returns a text in brackets, if it needs them.
func inBrackets(s string, needed bool) string {
	if needed {
		return "(" + s + ")"
	}
	return s
}

// P3.1: of two infix operators the inner one stands in brackets where the outer one does not permit it, or would be taken into it.
func TestInfixInInfix(t *testing.T) {
	a, b, c := app("a"), app("b"), app("c")
	for _, x := range strings.Fields(infixNames) {
		p, left, right := terms.Infix(x)
		for _, y := range strings.Fields(infixNames) {
			q, _, last := terms.Infix(y)
			inner := "a" + spaced(y) + "b"
			wantTerm(t, app(x, app(y, a, b), c), 1200, inBrackets(inner, q > left || q == p && last == p)+spaced(x)+"c")
			inner = "b" + spaced(y) + "c"
			wantTerm(t, app(x, a, app(y, b, c)), 1200, "a"+spaced(x)+inBrackets(inner, q > right))
		}
	}
}

// P3.1: an infix and a prefix operator, each one in the sides of the other.
func TestPrefixAndInfix(t *testing.T) {
	a, b := app("a"), app("b")
	for _, x := range strings.Fields(prefixNames) {
		p, right, _ := terms.Prefix(x)
		for _, y := range strings.Fields(infixNames) {
			q, l, r := terms.Infix(y)
			wantTerm(t, app(x, app(y, a, b)), 1200, x+" "+inBrackets("a"+spaced(y)+"b", q > right))
			wantTerm(t, app(y, app(x, a), b), 1200, inBrackets(x+" a", p > l)+spaced(y)+"b")
			wantTerm(t, app(y, a, app(x, b)), 1200, "a"+spaced(y)+inBrackets(x+" b", p > r))
		}
		for _, y := range strings.Fields(prefixNames) {
			q, _, _ := terms.Prefix(y)
			wantTerm(t, app(x, app(y, a)), 1200, x+" "+inBrackets(y+" a", q > right))
		}
	}
}

// P3.1: a prefix of two, of which the first term permits nothing, in and around the other operators.
func TestPrefixOfTwo(t *testing.T) {
	a, b, c := app("a"), app("b"), app("c")
	p, right, _ := terms.Prefix("some")
	for _, y := range strings.Fields(infixNames) {
		q, l, r := terms.Infix(y)
		inner := "a" + spaced(y) + "b"
		wantTerm(t, app("some", app(y, a, b), c), 1200, "some ("+inner+") c")
		wantTerm(t, app("some", c, app(y, a, b)), 1200, "some c "+inBrackets(inner, q > right))
		wantTerm(t, app(y, app("some", a, b), c), 1200, inBrackets("some a b", p > l)+spaced(y)+"c")
		wantTerm(t, app(y, a, app("some", b, c)), 1200, "a"+spaced(y)+inBrackets("some b c", p > r))
	}
	for _, y := range strings.Fields(prefixNames) {
		q, r, _ := terms.Prefix(y)
		wantTerm(t, app("some", app(y, a), c), 1200, "some ("+y+" a) c")
		wantTerm(t, app("some", c, app(y, a)), 1200, "some c "+inBrackets(y+" a", q > right))
		wantTerm(t, app(y, app("some", a, b)), 1200, y+" "+inBrackets("some a b", p > r))
	}
	wantTerm(t, app("some", app("some", a, b), app("some", b, c)), 1200, "some (some a b) some b c")
	for _, x := range []struct{ first, want string }{
		{"X", "some X c"}, {"1", "some 1 c"}, {"-1", "some -1 c"}, {"!X", "some !X c"}, {"!.X", "some !.X c"}, {"f(a, b)", "some f(a, b) c"}, {"[X]", "some [X] c"}, {"{X}", "some {X} c"}, {"-(1)", "some -(1) c"},
		{"(!)", "some (!) c"}, {"'!:'", "some ('!:') c"}, {"!(a)", "some !(a) c"}, {"'!:'(a)", "some '!:'(a) c"}, {"(-)", "some (-) c"}, {"(=)", "some (=) c"}, {"','", "some (',') c"}, {"-(a, b, c)", "some -(a, b, c) c"},
		{"=(a)", "some(=(a), c)"}, {"=(a, b, c)", "some(=(a, b, c), c)"}, {"mod(a)", "some(mod(a), c)"}, {"model(a)", "some model(a) c"}, {";(a)", "some(;(a), c)"}, {"=(a) = b", "some (=(a) = b) c"}, {"=(a) ^ b", "some (=(a) ^ b) c"}, {"-(=(a))", "some -(=(a)) c"},
	} {
		wantTerm(t, app("some", must(t, x.first), c), 1200, x.want)
	}
	// The second term may begin with any name.
	wantTerm(t, app("some", variab("X"), app("=", a)), 1200, "some X =(a)")
	wantTerm(t, app("some", variab("X"), app("=")), 1200, "some X (=)")
	wantTerm(t, app("some", variab("X"), num(-1)), 1200, "some X -1")
	wantTerm(t, app("some", variab("X"), app(":-", a, b)), 1200, "some X (a :- b)")
	wantTerm(t, app("some", app("!"), variab("X")), 1200, "some (!) X")
	wantTerm(t, app("some"), 1200, "some")
	wantTerm(t, app("some", a), 1200, "some(a)")
	wantTerm(t, app("some", a, b, c), 1200, "some(a, b, c)")
	wantTerm(t, app("f", app("some", app("!"), app("!"))), 1200, "f(some (!) !)")
}

// P3.1: chains of one operator, with brackets and without.
func TestChains(t *testing.T) {
	for _, x := range [][2]string{
		{"x - (y - z)", "x - (y - z)"}, {"(x - y) - z", "x - y - z"}, {"x - y + z - w", "x - y + z - w"}, {"((a * b) / c) mod d", "a * b / c mod d"}, {"a * (b * c)", "a * (b * c)"},
		{"a , (b , c)", "a, b, c"}, {"(a, b), c", "(a, b), c"}, {"a ; (b ; c)", "a ; b ; c"}, {"(a ; b) ; c", "(a ; b) ; c"}, {"a -> (b -> c)", "a -> b -> c"}, {"(a & b) & c", "(a & b) & c"},
		{"a ^ (b ^ c)", "a ^ b ^ c"}, {"(a ^ b) ^ c", "(a ^ b) ^ c"}, {"(a = b) = c", "(a = b) = c"}, {"a = (b = c)", "a = (b = c)"}, {"(a :- b) :- c", "(a :- b) :- c"}, {"a :- (b --> c)", "a :- (b --> c)"},
		{"(a ++ b) ++ c", "(a ++ b) ++ c"}, {"a ++ (b ++ c)", "a ++ b ++ c"}, {"a ++ (b + c)", "a ++ b + c"}, {"(a ++ b) + c", "(a ++ b) + c"}, {"(a ++ b) - c", "(a ++ b) - c"}, {"(a + b) ++ c", "(a + b) ++ c"}, {"a + (b ++ c)", "a + (b ++ c)"},
		{"(a ++ b - c) - d", "(a ++ b - c) - d"}, {"((a ++ b) + c) + d", "(a ++ b) + c + d"}, {"a ++ b + c + d", "a ++ b + c + d"},
		{"not (not a)", "not not a"}, {"\\+ (not (\\+ a))", "\\+ not \\+ a"}, {"- (- a)", "- (- a)"}, {"- (+ a)", "- (+ a)"}, {"pred (func a)", "pred (func a)"}, {":- (:- a)", ":- (:- a)"}, {"some a (some b c)", "some a some b c"},
		{"(- a) + b", "- a + b"}, {"- (a + b)", "- (a + b)"}, {"- (a * b)", "- a * b"}, {"(- a) * b", "(- a) * b"}, {"a - (- b)", "a - (- b)"}, {"not (a = b)", "not a = b"}, {"(not a) = b", "(not a) = b"}, {"not a , b", "not a, b"}, {"(not a), (not b)", "not a, not b"},
		{"if a then b else (if c then d else e)", "if a then b else if c then d else e"}, {"if (if a then b else c) then d else e", "if (if a then b else c) then d else e"}, {"(if a then b else c) else d", "(if a then b else c) else d"}, {"if (a else b)", "if (a else b)"},
		{":- pred p(int :: in, (pred(int) is det) :: out) is det", ":- pred p(int :: in, ((pred int) is det) :: out) is det"}, {":- type t(A) ---> a ; b(x :: A)", ":- type t(A) ---> a ; b(x :: A)"},
	} {
		wantTerm(t, must(t, x[0]), 1200, x[1])
	}
}

// P3.1: a prefix operator that would be read otherwise is written as another name: - in front of digits, all in front of what begins with the name of an infix operator.
func TestMisread(t *testing.T) {
	a, one := app("a"), num(1)
	for _, x := range []struct {
		term api.Term
		want string
	}{
		{app("-", one), "-(1)"}, {app("-", num(0)), "-(0)"}, {app("-", num(-1)), "- -1"}, {app("+", one), "+ 1"}, {app("not", one), "not 1"}, {app("-", app("-", one)), "- -(1)"}, {app("-", app("-", num(-1))), "- (- -1)"},
		{app("-", app("*", one, a)), "-(1 * a)"}, {app("-", app("^", one, a)), "-(1 ^ a)"}, {app("-", app("*", app("^", one, a), a)), "-(1 ^ a * a)"}, {app("-", app("+", one, a)), "- (1 + a)"}, {app("-", app("*", num(-1), a)), "- -1 * a"}, {app("-", app("*", app("+", one, a), a)), "- (1 + a) * a"},
		{app("-", char('1')), "- 0'1"}, {app("-", str("1")), "- \"1\""}, {app("-", app("1")), "- '1'"}, {app("-", variab("X")), "- X"}, {app("-", app("f", one)), "- f(1)"}, {app("-", app("[|]", one, app("[]"))), "- [1]"}, {app("-", app("{}", one)), "- {1}"}, {app("-", app("^", char('1'), a)), "- 0'1 ^ a"},
		{app("-", one, one), "1 - 1"}, {app("-", one, app("-", one)), "1 - -(1)"}, {app("-", app("-", one), one), "-(1) - 1"}, {app("^", app("-", one), a), "-(1) ^ a"}, {app("=", app("-", one), app("-", one)), "-(1) = -(1)"}, {app("-", one, num(-1)), "1 - -1"}, {app("^", num(-1), num(-1)), "-1 ^ -1"},
		{app("not", app("=", a)), "not(=(a))"}, {app("not", app("=", app("=", a), a)), "not(=(a) = a)"}, {app("not", app(",", app("=", a), a)), "not (=(a), a)"}, {app("-", app("mod", a)), "-(mod(a))"}, {app("-", app("model", a)), "- model(a)"}, {app(":-", app("=", some(3)...)), ":-(=(a, a, a))"},
		{app("not", app("=")), "not (=)"}, {app("not", app(":-", a)), "not (:- a)"}, {app("not", app("-", some(3)...)), "not -(a, a, a)"}, {app("not", app("+", app("-", some(3)...), a)), "not -(a, a, a) + a"}, {app("not", app("not", app("=", a))), "not not(=(a))"},
		{app("+", app("-", app("=", a)), a), "-(=(a)) + a"}, {app("^", app("-", app("=", a)), a), "-(=(a)) ^ a"}, {app("-", app("-", app("=", a))), "- -(=(a))"}, {app("+", app("*", app("*", a), a)), "+(*(a) * a)"},
		{app("pred", app("is", a)), "pred(is(a))"}, {app("if", app("then", app("=", a), a)), "if((=(a) then a))"}, {app("not", app("-")), "not (-)"}, {app("not", app("call", variab("X"), a)), "not X(a)"}, {app("not", app("=", app("!", variab("X")), a)), "not !X = a"},
	} {
		wantTerm(t, x.term, 1200, x.want)
	}
	for _, y := range strings.Fields(infixNames) {
		q, _, _ := terms.Prefix(y)
		for _, x := range strings.Fields(prefixNames) {
			want := x + "(" + y + "(a, a, a))"
			switch {
			case y == ",":
				want = x + " ','(a, a, a)"
			case q > 0:
				want = x + " " + y + "(a, a, a)"
			}
			wantTerm(t, app(x, app(y, some(3)...)), 1200, want)
		}
	}
}

// P3.1: an operator without arguments stands in brackets, but as an argument, an element or the whole.
func TestBareOperators(t *testing.T) {
	a := app("a")
	for _, name := range strings.Fields(operatorNames) {
		x, s := app(name), name
		if name == "," {
			s = "','"
		}
		for _, m := range []int{0, 500, 998, 999, 1000, 1200} {
			wantTerm(t, x, m, inBrackets(s, m < 999))
		}
		for _, c := range []struct {
			term api.Term
			want string
		}{
			{app("f", x), "f(" + s + ")"}, {app("f", a, x, a), "f(a, " + s + ", a)"}, {app("-", a, x, x), "-(a, " + s + ", " + s + ")"}, {app("call", variab("X"), x), "X(" + s + ")"}, {app("call", x, x), "call(" + s + ", " + s + ")"},
			{app("[|]", x, app("[|]", x, app("[]"))), "[" + s + ", " + s + "]"}, {app("[|]", x, x), "[" + s + " | " + s + "]"}, {app("{}", x), "{" + s + "}"},
			{app(":-", x, x), "(" + s + ") :- (" + s + ")"}, {app(",", x, x), "(" + s + "), (" + s + ")"}, {app(";", a, x), "a ; (" + s + ")"}, {app("=", x, a), "(" + s + ") = a"}, {app("^", x, x), "(" + s + ") ^ (" + s + ")"},
			{app(":-", x), ":- (" + s + ")"}, {app("not", x), "not (" + s + ")"}, {app("-", x), "- (" + s + ")"}, {app("some", x, x), "some (" + s + ") (" + s + ")"}, {app("if", x), "if (" + s + ")"},
			{app("f", app(",", x, a)), "f(((" + s + "), a))"}, {app("!", x), "!(" + s + ")"},
		} {
			wantTerm(t, c.term, 1200, c.want)
		}
	}
	for _, s := range []string{"!", "[]", "#", "a", "\\", "interface"} {
		wantTerm(t, app(s), 0, s)
		wantTerm(t, app("=", app(s), app(s)), 700, s+" = "+s)
	}
}

// P3.1: an application of an operator stands in brackets where less than its priority is permitted.
func TestPlaces(t *testing.T) {
	a, b := app("a"), app("b")
	for _, name := range strings.Fields(infixNames) {
		p, _, _ := terms.Infix(name)
		s := "a" + spaced(name) + "b"
		for _, m := range []int{0, p - 1, p, 1200} {
			wantTerm(t, app(name, a, b), m, inBrackets(s, m < p))
		}
		wantTerm(t, app("f", app(name, a, b), a), 0, "f("+inBrackets(s, p > 999)+", a)")
		wantTerm(t, app("[|]", app(name, a, b), app(name, a, b)), 0, "["+inBrackets(s, p > 999)+" | "+inBrackets(s, p > 999)+"]")
		wantTerm(t, app("call", variab("X"), app(name, a, b)), 0, "X("+inBrackets(s, p > 999)+")")
		wantTerm(t, app("{}", app(name, a, b)), 0, "{"+s+"}")
	}
	for _, name := range strings.Fields(prefixNames) {
		p, _, _ := terms.Prefix(name)
		for _, m := range []int{0, p - 1, p, 1200} {
			wantTerm(t, app(name, a), m, inBrackets(name+" a", m < p))
		}
		wantTerm(t, app("f", app(name, a)), 0, "f("+inBrackets(name+" a", p > 999)+")")
		wantTerm(t, app(name), 1200, name)
		wantTerm(t, app(name, some(3)...), 0, name+"(a, a, a)")
	}
	for _, m := range []int{0, 949, 950, 1200} {
		wantTerm(t, app("some", a, b), m, inBrackets("some a b", m < 950))
	}
	// What is not written as an operator needs nothing.
	wantTerm(t, app("-", num(1)), 0, "-(1)")
	wantTerm(t, app("not", app("=", a)), 0, "not(=(a))")
	wantTerm(t, app("some", app("=", a), a), 0, "some(=(a), a)")
}
