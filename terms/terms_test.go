package terms

import (
	"slices"
	"strings"
	"testing"

	"cinnabar/api"
	"cinnabar/tokens"
)

// P2.1: what terms are made of tokens.
func TestOne(t *testing.T) {
	for _, x := range []struct{ text, want string }{
		// what stands alone
		{"X", "X"}, {"_", "_"}, {"a", "a"}, {"'a b'", "a b"}, {"a.b", "a.b"}, {"12", "12"}, {"007", "7"},
		{"4611686018427387903", "4611686018427387903"}, {"- 4611686018427387903", "-4611686018427387903"},
		{"0'a", "0'a"}, {"0'\\n", "0'\n"}, {"\"a\\nb\"", "\"a\\nb\""}, {"\"\"", "\"\""},
		// operators
		{"a :- b, c", ":-(a, ,(b, c))"}, {":- a", ":-(a)"}, {"a --> b", "-->(a, b)"},
		{"a = b + c * d ^ e", "=(a, +(b, *(c, ^(d, e))))"}, {"a - b - c", "-(-(a, b), c)"}, {"a ^ b ^ c", "^(a, ^(b, c))"},
		{"a ; b -> c & d, e", ";(a, ->(b, &(c, ,(d, e))))"}, {"a, b -> c ; d", ";(->(,(a, b), c), d)"},
		{"a ++ b ++ c", "++(a, ++(b, c))"}, {"a - b ++ c", ""}, {"a ++ b - c", "++(a, -(b, c))"},
		{"if a then b else c", "else(if(then(a, b)), c)"},
		{"if a then b else if c then d else e", "else(if(then(a, b)), else(if(then(c, d)), e))"},
		{"X ^ f := V = Y", "=(:=(^(X, f), V), Y)"},
		{"pred p(X :: in) is det :- q", ":-(pred(is(p(::(X, in)), det)), q)"},
		{":- pred p(int::in) is det <= c(A), d(A)", ":-(,(<=(pred(is(p(::(int, in)), det)), c(A)), d(A)))"},
		{":- type t(A) ---> c(f :: int, A) ; d", ":-(type(--->(t(A), ;(c(::(f, int), A), d))))"},
		{":- mode m == (a >> b)", ":-(mode(==(m, >>(a, b))))"},
		// prefix operators
		{"\\+ \\+ a", "\\+(\\+(a))"}, {"\\+ a = b", "\\+(=(a, b))"}, {"not a, b", ",(not(a), b)"}, {"- a", "-(a)"}, {"- a * b", "-(*(a, b))"},
		{"- a + b", "+(-(a), b)"}, {"+ 1", "+(1)"}, {"- (1)", "-(1)"}, {"-(1)", "-(1)"}, {"-(1, 2)", "-(1, 2)"}, {"- X", "-(X)"}, {"- 0'a", "-(0'a)"},
		{"- \"a\"", "-(\"a\")"}, {"- [a]", "-([|](a, []))"}, {"- {a}", "-({}(a))"}, {"- a(b)", "-(a(b))"}, {":- :- (a)", ""},
		{"-", "-"}, {":-", ":-"}, {"some", "some"}, {"mode", "mode"}, {"- -", "-(-)"}, {"- +", "-(+)"}, {"- (-)", "-(-)"}, {"- - a", ""}, {"- = a", "=(-, a)"}, {"- mod a", "mod(-, a)"},
		{"- ;", ""}, {"mode = a", "=(mode, a)"}, {"type - a", "type(-(a))"}, {"if :- a", ""}, {"if :-", "if(:-)"}, {"- - - a", "-(-(-), a)"}, {"\\+ - a", "\\+(-(a))"},
		{"f(:-, a)", "f(:-, a)"}, {"f(:- a)", ""}, {"f(\\+ a)", "f(\\+(a))"}, {"a = \\+", "=(a, \\+)"}, {"a = \\+ b", ""}, {"a = - b", "=(a, -(b))"},
		{"{:- a}", "{}(:-(a))"}, {"(:- a)", ":-(a)"}, {"(-)", "-"}, {"[- | -]", "[|](-, -)"}, {"f(-)", "f(-)"}, {"- | a", ""}, {":- ','", ":-(,)"},
		// the prefix of two
		{"some [X] p", "some([|](X, []), p)"}, {"some X Y", "some(X, Y)"}, {"some a b, c", ",(some(a, b), c)"}, {"some a \\+ b", "some(a, \\+(b))"},
		{"some a some b c", "some(a, some(b, c))"}, {"some - a", "some(-, a)"}, {"some (- a) b", "some(-(a), b)"}, {"some -1 a", "some(-1, a)"}, {"some a -1", "some(a, -1)"},
		{"some a - 1", "some(a, -1)"}, {"some a - b", "some(a, -(b))"}, {"some !X a", "some(!(X), a)"}, {"some a", ""}, {"some = a", "=(some, a)"}, {"some(a)", "some(a)"}, {"some a if", "some(a, if)"},
		{"some a b = c", "some(a, =(b, c))"}, {"some a = b", ""}, {"a = some", "=(a, some)"}, {"a = some b c", ""}, {"f(some a b)", "f(some(a, b))"},
		// infix operators that stand first
		{"=", "="}, {"= = =", "=(=, =)"}, {"a = =", "=(a, =)"}, {"f(=, mod)", "f(=, mod)"}, {"[=]", "[|](=, [])"}, {"=(a)", "=(a)"}, {"mod(a, b)", "mod(a, b)"}, {"= a", ""},
		{"a ',' b", ""}, {"','", ","}, {"','(a, b)", ",(a, b)"}, {"','(a)", ",(a)"}, {"a | b", ""},
		// minus and a number
		{"- 1", "-1"}, {"-1", "-1"}, {"-  007", "-7"}, {"- 0", "0"}, {"a - 1", "-(a, 1)"}, {"a -1", "-(a, 1)"}, {"a - -1", "-(a, -1)"}, {"- 1 - 1", "-(-1, 1)"}, {"- 1 ^ 2", "^(-1, 2)"},
		{"a ^ - 1", "^(a, -1)"}, {"[- 1, -1]", "[|](-1, [|](-1, []))"}, {"- - 1", "-(-1)"}, {"- /**/1", "-1"}, {"'-' 1", "-1"}, {"\\+ -1", "\\+(-1)"}, {"1 - 1", "-(1, 1)"}, {"(-)- 1", "-(-, 1)"},
		// arguments
		{"f(a)", "f(a)"}, {"f(a, B, 1)", "f(a, B, 1)"}, {"f((a, b), c :: d)", "f(,(a, b), ::(c, d))"}, {"f(a <= b)", "f(<=(a, b))"}, {"f(a & b)", ""}, {"f(a :- b)", ""}, {"'a b'(c)", "a b(c)"}, {"a.b(c)", "a.b(c)"},
		{"P(X)", "call(P, X)"}, {"P(X, Y) = Q(Z)", "=(call(P, X, Y), call(Q, Z))"}, {"_(a)", "call(_, a)"}, {"call(P, X)", "call(P, X)"}, {"call", "call"}, {"P()", ""}, {"P (X)", ""}, {"f (X)", ""}, {"f(a)(b)", ""}, {"f()", ""}, {"f(a b)", ""}, {"f(a, )", ""}, {"f(, a)", ""}, {"f(a | b)", ""},
		{"f((a))", "f(a)"}, {"f(((a, b)))", "f(,(a, b))"},
		// brackets
		{"(a)", "a"}, {"((a))", "a"}, {"(a :- b) :- c", ":-(:-(a, b), c)"}, {"a - (b - c)", "-(a, -(b, c))"}, {"(a = b) = c", "=(=(a, b), c)"}, {"()", ""}, {"(a", ""}, {"(a]", ""}, {"a)", ""},
		{"{a, b}", "{}(,(a, b))"}, {"{a :- b}", "{}(:-(a, b))"}, {"'{}'(a)", "{}(a)"}, {"{}", ""}, {"{a)", ""}, {"'{}'", ""}, {"'{}'(a, b)", ""},
		// lists
		{"[]", "[]"}, {"[ ]", "[]"}, {"'[]'", "[]"}, {"[a]", "[|](a, [])"}, {"[a, b]", "[|](a, [|](b, []))"}, {"[a | T]", "[|](a, T)"}, {"[a, b | T]", "[|](a, [|](b, T))"}, {"[a | [b]]", "[|](a, [|](b, []))"},
		{"[[a], []]", "[|]([|](a, []), [|]([], []))"}, {"[(a, b)]", "[|](,(a, b), [])"}, {"[a = b | c = d]", "[|](=(a, b), =(c, d))"}, {"[a :- b]", ""}, {"[a | b :- c]", ""}, {"[a | b, c]", ""}, {"[a | b | c]", ""}, {"[a | ]", ""}, {"[| a]", ""}, {"[, a]", ""}, {"[a, ]", ""}, {"[a", ""}, {"[a)", ""},
		{"'[|]'(a, b)", "[|](a, b)"}, {"'[|]'", ""}, {"'[|]'(a)", ""}, {"'[|]'(a, b, c)", ""}, {"'[]'(a)", ""},
		// state variables
		{"!X", "!(X)"}, {"!.X", "!.(X)"}, {"!:X", "!:(X)"}, {"! X", "!(X)"}, {"!_", "!(_)"}, {"!", "!"}, {"!(X)", "!(X)"}, {"!(a, b)", "!(a, b)"}, {"!a", ""}, {"!X(a)", ""}, {"!.X = !:Y", "=(!.(X), !:(Y))"}, {"p(!X, !.Y)", "p(!(X), !.(Y))"},
		{"'!:'(a)", "!:(a)"}, {"'!:' X", "!:(X)"}, {"! = a", "=(!, a)"}, {"- !X", "-(!(X))"}, {"!X ^ f", "^(!(X), f)"},
		// two terms
		{"a b", ""}, {"X Y", ""}, {"1 2", ""}, {"a (b)", ""}, {"a [b]", ""}, {"(a) (b)", ""}, {"a.", ""}, {"", ""},
	} {
		got, f := oneOf(x.text)
		if (f.Code == api.OK) != (x.want != "") || f.Code == api.OK && show(got) != x.want {
			t.Errorf("%q: %s %v", x.text, show(got), f)
		}
		if f.Code == api.OK && (f.At != 0 || Check(got) != api.OK) {
			t.Errorf("%q: %v %v", x.text, f, Check(got))
		}
	}
}

// P2.1: the places of terms.
func TestPlaces(t *testing.T) {
	for _, x := range []struct{ text, want string }{
		{" a", "a@1"}, {" X", "X@1"}, {" 12", "12@1"}, {" \"a\"", "\"a\"@1"}, {" 0'a", "0'a@1"},
		{" - 12", "-12@1"}, {" - a", "-@1(a@3)"}, {" a - 1", "-@3(a@1, 1@5)"}, {"a :- b, c", ":-@2(a@0, ,@6(b@5, c@8))"},
		{" some a b", "some@1(a@6, b@8)"}, {" f(a, X)", "f@1(a@3, X@6)"}, {" P(a)", "call@1(P@1, a@3)"}, {" !X", "!@1(X@2)"},
		{" {a}", "{}@1(a@2)"}, {" []", "[]@1"}, {" [a, b ]", "[|]@2(a@2, [|]@5(b@5, []@7))"}, {" [a | T]", "[|]@2(a@2, T@6)"},
		{" [a - b, - 1, f(c)]", "[|]@2(-@4(a@2, b@6), [|]@9(-1@9, [|]@14(f@14(c@16), []@18)))"},
		{"[(a), (b = c)]", "[|]@1(a@2, [|]@6(=@9(b@7, c@11), []@13))"}, {"[[ ]]", "[|]@1([]@1, []@4)"}, {" '[]'", "[]@1"},
		{" if a then b else c", "else@13(if@1(then@6(a@4, b@11)), c@18)"}, {"a - b - c", "-@6(-@2(a@0, b@4), c@8)"},
	} {
		got, f := oneOf(x.text)
		if f.Code != api.OK || showPlaces(got) != x.want {
			t.Errorf("%q: %s %v", x.text, showPlaces(got), f)
		}
		l, f := Text(x.text + " .")
		if f.Code != api.OK || len(l) != 1 || showPlaces(l[0]) != x.want {
			t.Errorf("%q: %v %v", x.text, l, f)
		}
	}
}

// P2.1: terms, each with a stop, up to the end.
func TestTerms(t *testing.T) {
	for _, x := range []struct{ text, want string }{
		{"", ""}, {" % a", ""}, {"a.", "a"}, {"a. b.", "a b"}, {"f(X) :- a, b. - 1. \n [a].", ":-(f(X), ,(a, b)) -1 [|](a, [])"}, {"- . - .", "- -"},
	} {
		l, f := Text(x.text)
		var shown []string
		for _, y := range l {
			shown = append(shown, show(y))
		}
		if f != (api.Fault{}) || strings.Join(shown, " ") != x.want {
			t.Errorf("%q: %v %v", x.text, shown, f)
		}
	}
	// Behind the first end nothing is looked at, and without an end the list is.
	l := []api.Token{name("a"), stop(), end(9), {Kind: 99}, name("b")}
	kept := slices.Clone(l)
	if got, f := Terms(l); f != (api.Fault{}) || len(got) != 1 || show(got[0]) != "a" {
		t.Error(got, f)
	}
	if got, f := One(append(l[:1:1], l[2:]...)); f != (api.Fault{}) || show(got) != "a" {
		t.Error(got, f)
	}
	if !slices.Equal(l, kept) {
		t.Error("the argument has changed")
	}
	if got, f := Terms(l[:2]); f != (api.Fault{}) || len(got) != 1 {
		t.Error(got, f)
	}
	if got, f := One(l[:1]); f != (api.Fault{}) || show(got) != "a" {
		t.Error(got, f)
	}
	if got, f := Terms(l[2:]); f != (api.Fault{}) || len(got) != 0 {
		t.Error(got, f)
	}
	if _, f := One(l[2:]); f != (api.Fault{At: 9, Code: api.ErrEnd}) {
		t.Error(f)
	}
	if got, f := Terms(nil); f != (api.Fault{}) || len(got) != 0 {
		t.Error(got, f)
	}
}

// P2.1: faults of texts with their places.
func TestFaults(t *testing.T) {
	for _, x := range []struct {
		text string
		at   int
		code api.Errno
	}{
		{"a b 'c", 4, api.ErrEnd}, {"a b \x01", 4, api.ErrForm}, {"a b 4611686018427387904.", 4, api.ErrRange},
		{"a", 1, api.ErrEnd}, {"a ", 2, api.ErrEnd}, {"a. b", 4, api.ErrEnd}, {"f(a", 3, api.ErrEnd}, {"f(", 2, api.ErrEnd}, {"f(a,", 4, api.ErrEnd}, {"(", 1, api.ErrEnd}, {"(a", 2, api.ErrEnd}, {"{", 1, api.ErrEnd}, {"{a", 2, api.ErrEnd},
		{"[", 1, api.ErrEnd}, {"[a", 2, api.ErrEnd}, {"[a,", 3, api.ErrEnd}, {"[a |", 4, api.ErrEnd}, {"[a | b", 6, api.ErrEnd}, {"a =", 3, api.ErrEnd}, {"a,", 2, api.ErrEnd}, {"-", 1, api.ErrEnd}, {"some a", 6, api.ErrEnd}, {"- 1", 3, api.ErrEnd}, {"!X", 2, api.ErrEnd},
		{".", 0, api.ErrSyntax}, {"a. .", 3, api.ErrSyntax}, {"f(a.", 3, api.ErrSyntax}, {"f(a . b)", 4, api.ErrSyntax}, {"a = .", 4, api.ErrSyntax}, {"[a | .", 5, api.ErrSyntax}, {"(a .", 3, api.ErrSyntax}, {"some a .", 7, api.ErrSyntax},
		{"a = b = c.", 6, api.ErrSyntax}, {"a :- b :- c.", 7, api.ErrSyntax}, {":- a :- b.", 5, api.ErrSyntax}, {"a b.", 2, api.ErrSyntax}, {"f().", 2, api.ErrSyntax}, {"f(a b).", 4, api.ErrSyntax}, {"f(a :- b).", 4, api.ErrSyntax},
		{"[a :- b].", 3, api.ErrSyntax}, {"(a]", 2, api.ErrSyntax}, {"{}.", 1, api.ErrSyntax}, {"{a]", 2, api.ErrSyntax}, {"[a}", 2, api.ErrSyntax}, {"[a | b, c].", 6, api.ErrSyntax}, {"[a | b | c].", 7, api.ErrSyntax}, {"[|", 1, api.ErrSyntax}, {"a | b.", 2, api.ErrSyntax}, {"a).", 1, api.ErrSyntax}, {", a.", 0, api.ErrSyntax},
		{"f(a) (b).", 5, api.ErrSyntax}, {"!X(a).", 2, api.ErrSyntax}, {"f(:- a).", 5, api.ErrSyntax}, {"a = \\+ b.", 7, api.ErrSyntax}, {"- - a.", 4, api.ErrSyntax}, {"= a.", 2, api.ErrSyntax},
		{" '{}'.", 1, api.ErrSyntax}, {" '{}'(a, b).", 1, api.ErrSyntax}, {" '[]'(x).", 1, api.ErrSyntax}, {" '[|]'.", 1, api.ErrSyntax}, {" '[|]'(a).", 1, api.ErrSyntax}, {" '[|]'(a, b, c).", 1, api.ErrSyntax}, {"f(a, '[]'(b))", 5, api.ErrSyntax}, {"- '{}'.", 2, api.ErrSyntax},
		// What is wrong in the arguments is met before they are known to be too many or too few.
		{"'[]'(a b).", 7, api.ErrSyntax}, {"'[]'(a", 6, api.ErrEnd}, {"'{}'('[]'(a), b).", 5, api.ErrSyntax},
		{"a b. c d", 2, api.ErrSyntax}, {"a. b c. d", 5, api.ErrSyntax},
	} {
		if l, f := Text(x.text); l != nil || f != (api.Fault{At: x.at, Code: x.code}) {
			t.Errorf("%q: %v %v, not %d %v", x.text, l, f, x.at, x.code)
		}
	}
}

// P2.1: faults of One, which permits no stop.
func TestOneFaults(t *testing.T) {
	for _, x := range []struct {
		text string
		at   int
		code api.Errno
	}{
		{"", 0, api.ErrEnd}, {"  ", 2, api.ErrEnd}, {"a.", 1, api.ErrSyntax}, {".", 0, api.ErrSyntax}, {"a b", 2, api.ErrSyntax}, {"a, ", 3, api.ErrEnd}, {"a. b.", 1, api.ErrSyntax},
		{strings.Repeat("f(", 64) + "a" + strings.Repeat(")", 64), 0, api.ErrLimit},
	} {
		got, f := oneOf(x.text)
		if !Same(got, api.Term{}) || got.At != 0 || f != (api.Fault{At: x.at, Code: x.code}) {
			t.Errorf("%.20q: %v %v", x.text, got, f)
		}
	}
	if _, f := One(nil); f != (api.Fault{Code: api.ErrEnd}) {
		t.Error(f)
	}
}

// P2.1: faults of lists of tokens that no text has.
func TestTokenFaults(t *testing.T) {
	wrong := api.Token{Kind: 8, At: 7}
	for _, x := range []struct {
		l    []api.Token
		want api.Fault
	}{
		{[]api.Token{wrong}, api.Fault{At: 7, Code: api.ErrKind}},
		{[]api.Token{{Kind: -1, At: 3}, wrong}, api.Fault{At: 3, Code: api.ErrKind}},
		{[]api.Token{{Kind: api.TokVar, Text: "x", At: 5}, wrong}, api.Fault{At: 5, Code: api.ErrForm}},
		{[]api.Token{{Kind: api.TokInt, Text: "4611686018427387904", At: 5}}, api.Fault{At: 5, Code: api.ErrRange}},
		{[]api.Token{{Kind: api.TokName, Text: strings.Repeat("a", 41), At: 5}}, api.Fault{At: 5, Code: api.ErrLimit}},
		{[]api.Token{punc(")"), wrong}, api.Fault{At: 7, Code: api.ErrKind}},
		{[]api.Token{punc(")"), end(4), wrong}, api.Fault{Code: api.ErrSyntax}},
		{[]api.Token{name("a"), punc("(("), end(4), wrong}, api.Fault{At: 4, Code: api.ErrEnd}},
		{[]api.Token{name("a"), punc("((")}, api.Fault{Code: api.ErrEnd}},
		{[]api.Token{name("a"), end(-5)}, api.Fault{At: -5, Code: api.ErrEnd}},
		{[]api.Token{{Kind: api.TokPunct, Text: "((", At: 3}}, api.Fault{At: 3, Code: api.ErrSyntax}},
		{[]api.Token{tok(api.TokInt, "1"), {Kind: api.TokPunct, Text: "((", At: 3}}, api.Fault{At: 3, Code: api.ErrSyntax}},
		{[]api.Token{{Kind: api.TokName, Text: "!.", At: 3}, punc("(("), name("a"), punc(")"), stop()}, api.Fault{At: 3, Code: api.ErrSyntax}},
		{[]api.Token{{Kind: api.TokName, Text: "!.", At: 3}, punc("(("), name("a"), punc(")"), name("b")}, api.Fault{At: 3, Code: api.ErrSyntax}},
		{[]api.Token{{Kind: api.TokName, Text: "!.", At: 3}, stop()}, api.Fault{At: 3, Code: api.ErrSyntax}},
		{[]api.Token{{Kind: api.TokName, Text: "!.", At: 3}, punc("(("), tok(api.TokVar, "X"), punc(","), tok(api.TokVar, "X"), punc(")"), stop()}, api.Fault{At: 3, Code: api.ErrSyntax}},
		{[]api.Token{name("a"), name("-"), {Kind: api.TokName, Text: "!.", At: 3}, punc(")")}, api.Fault{At: 3, Code: api.ErrSyntax}},
	} {
		if l, f := Terms(x.l); l != nil || f != x.want {
			t.Error(x.l, l, f)
		}
		if got, f := One(x.l); x.l[len(x.l)-1] != end(-5) && (!Same(got, api.Term{}) || f != x.want) {
			t.Error(x.l, got, f)
		}
	}
	for _, x := range []struct {
		l    []api.Token
		want string
	}{
		{[]api.Token{name("!."), tok(api.TokVar, "X"), stop()}, "!.(X)"},
		{[]api.Token{name("!."), punc("(("), tok(api.TokVar, "X"), punc(")"), stop()}, "!.(X)"},
		{[]api.Token{name("!:"), stop()}, "!:"},
		{[]api.Token{name("!:"), punc("(("), name("a"), punc(","), name("b"), punc(")"), stop()}, "!:(a, b)"},
	} {
		if l, f := Terms(x.l); f.Code != api.OK || len(l) != 1 || show(l[0]) != x.want || Check(l[0]) != api.OK {
			t.Error(x.l, l, f)
		}
	}
}

// args writes n arguments with commas between them.
func args(n int) string { return strings.Repeat("a,", n-1) + "a" }

// P2.1: at most 32 arguments, and behind a variable as many.
func TestArgumentLimit(t *testing.T) {
	for _, x := range []struct {
		text string
		at   int
		code api.Errno
	}{
		{"f(" + args(32) + ").", 0, api.OK}, {"P(" + args(32) + ").", 0, api.OK}, {"call(P," + args(32) + ").", 0, api.OK}, {"call(" + args(32) + ").", 0, api.OK},
		{"[" + args(100) + "].", 0, api.OK}, {"f(f(" + args(32) + ")," + args(31) + ").", 0, api.OK}, {"f(" + args(31) + ",f(" + args(32) + ")).", 0, api.OK},
		{"f(" + args(33) + ").", 66, api.ErrLimit}, {"P(" + args(33) + ").", 66, api.ErrLimit}, {"call(P," + args(33) + ").", 71, api.ErrLimit}, {"call(" + args(33) + ").", 69, api.ErrLimit},
		{"f(" + args(32) + ",b = c).", 66, api.ErrLimit}, {"f(" + args(32) + ",(b c)).", 66, api.ErrLimit}, {"f(" + args(32) + ",(", 66, api.ErrLimit}, {"f(" + args(32) + ",=).", 66, api.ErrLimit},
		{"f(" + args(32) + ",).", 66, api.ErrSyntax}, {"f(" + args(32) + ",", 66, api.ErrEnd}, {"f(a b," + args(33) + ").", 4, api.ErrSyntax}, {"'[]'(" + args(33) + ").", 69, api.ErrLimit},
		{"cal(P," + args(32) + ").", 68, api.ErrLimit},
	} {
		if l, f := Text(x.text); f != (api.Fault{At: x.at, Code: x.code}) || (len(l) == 0) != (x.code != api.OK) {
			t.Errorf("%s: %v", x.text, f)
		}
	}
}

// P2.1: a term that is nested too deeply is refused behind all other faults, the first one of several.
func TestNestingLimit(t *testing.T) {
	deep := func(n int) string { return strings.Repeat("f(", n-1) + "a" + strings.Repeat(")", n-1) }
	for _, x := range []struct {
		text string
		at   int
		code api.Errno
	}{
		{deep(64) + ".", 0, api.OK}, {deep(65) + ".", 0, api.ErrLimit}, {"a. " + deep(65) + ". " + deep(66) + ".", 3, api.ErrLimit}, {deep(65) + ". a b.", 197, api.ErrSyntax}, {deep(65), 193, api.ErrEnd},
		{strings.Repeat("\\+ ", 63) + "a.", 0, api.OK}, {strings.Repeat("\\+ ", 64) + "a.", 0, api.ErrLimit}, {strings.Repeat("(", 30000) + "a" + strings.Repeat(")", 30000) + ".", 0, api.OK}, {strings.Repeat("(", 65000), 65000, api.ErrEnd},
		{strings.Repeat("a,", 30000) + "a.", 0, api.OK}, {strings.Repeat("a;", 30000) + "a.", 0, api.OK}, {strings.Repeat("a&", 30000) + "a.", 0, api.OK}, {"[" + args(30000) + "].", 0, api.OK},
		{strings.Repeat("a^", 63) + "a.", 0, api.OK}, {strings.Repeat("a^", 64) + "a.", 1, api.ErrLimit}, {strings.Repeat("a-", 63) + "a.", 0, api.OK}, {strings.Repeat("a-", 64) + "a.", 127, api.ErrLimit},
		{strings.Repeat("[", 63) + "a" + strings.Repeat("]", 63) + ".", 0, api.OK}, {strings.Repeat("[", 64) + "a" + strings.Repeat("]", 64) + ".", 1, api.ErrLimit},
	} {
		if l, f := Text(x.text); f != (api.Fault{At: x.at, Code: x.code}) || (len(l) == 0) != (x.code != api.OK) {
			t.Errorf("%.40s: %d %v", x.text, len(l), f)
		}
	}
}

// P2.1: Text is tokens.Tokens, and then Terms.
func TestText(t *testing.T) {
	for _, text := range []string{"a. b(X).", "a b.", "a 'b", "", "a"} {
		l, f := Text(text)
		k, g := tokens.Tokens(text)
		var m []api.Term
		if g.Code == api.OK {
			m, g = Terms(k)
		}
		if f != g || !slices.EqualFunc(l, m, identical) {
			t.Error(text, l, f, m, g)
		}
	}
}

// P1, P2.1: no list of tokens is too long for the calls.
func TestLongLists(t *testing.T) {
	const n = 200000
	for _, x := range []struct {
		front, pair []api.Token
		code        api.Errno
		size        int
	}{
		{nil, []api.Token{name("a"), punc(",")}, api.OK, 2*n + 1},
		{nil, []api.Token{name("a"), name("->")}, api.ErrLimit, 0},
		{nil, []api.Token{name("\\+")}, api.ErrLimit, 0},
		{nil, []api.Token{name("a"), name("-")}, api.ErrLimit, 0},
		{nil, []api.Token{name("f"), punc("((")}, api.ErrEnd, 0},
		{nil, []api.Token{punc("[")}, api.ErrEnd, 0},
	} {
		l := slices.Clone(x.front)
		for range n {
			l = append(l, x.pair...)
		}
		got, f := One(append(l, name("a")))
		if f.Code != x.code || f.Code == api.OK && Size(got) != x.size {
			t.Error(x.pair, f, Size(got))
		}
	}
}
