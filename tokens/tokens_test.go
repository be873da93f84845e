package tokens

import (
	"slices"
	"strings"
	"testing"

	"cinnabar/api"
)

// name, variable and so on make tokens without a place.
func name(s string) api.Token     { return api.Token{Kind: api.TokName, Text: s} }
func variable(s string) api.Token { return api.Token{Kind: api.TokVar, Text: s} }
func digits(s string) api.Token   { return api.Token{Kind: api.TokInt, Text: s} }
func char(s string) api.Token     { return api.Token{Kind: api.TokChar, Text: s} }
func str(s string) api.Token      { return api.Token{Kind: api.TokText, Text: s} }
func punct(s string) api.Token    { return api.Token{Kind: api.TokPunct, Text: s} }
func stop() api.Token             { return api.Token{Kind: api.TokStop, Text: "."} }

// placed returns tokens with these places, and with an end.
func placed(l []api.Token, places ...int) []api.Token {
	l = append(slices.Clone(l), api.Token{})
	for i := range l {
		l[i].At = places[i]
	}
	return l
}

// unplaced returns tokens without their places, and without the end.
func unplaced(l []api.Token) []api.Token {
	l = slices.Clone(l[:len(l)-1])
	for i := range l {
		l[i].At = 0
	}
	return l
}

// P1.1: kinds, texts and places.
func TestPlaces(t *testing.T) {
	for _, x := range []struct {
		text string
		want []api.Token
	}{
		{"", placed(nil, 0)},
		{" \t\n", placed(nil, 3)},
		{"% all", placed(nil, 5)},
		{"/**/", placed(nil, 4)},
		{"a.", placed([]api.Token{name("a"), stop()}, 0, 1, 2)},
		{" a /* b */ X%c\n1", placed([]api.Token{name("a"), variable("X"), digits("1")}, 1, 11, 15, 16)},
		{"p(X) :- q.r(X), 'a b'. % c", placed([]api.Token{
			name("p"), punct("(("), variable("X"), punct(")"), name(":-"), name("q.r"), punct("(("), variable("X"),
			punct(")"), punct(","), name("a b"), stop(),
		}, 0, 1, 2, 3, 5, 8, 11, 12, 13, 14, 16, 21, 26)},
		{"!.X = 0'a - 1.", placed([]api.Token{
			name("!."), variable("X"), name("="), char("a"), name("-"), digits("1"), stop(),
		}, 0, 2, 4, 6, 10, 12, 13, 14)},
		{"'\\'' \"\\\\\" 0'\\\\ 0'b", placed([]api.Token{name("'"), str("\\"), char("\\"), char("b")}, 0, 5, 10, 15, 18)},
	} {
		l, f := Tokens(x.text)
		if f != (api.Fault{}) || !slices.Equal(l, x.want) {
			t.Errorf("%q: %v %v", x.text, l, f)
		}
	}
}

// P1.1: which bytes belong to a token.
func TestTokens(t *testing.T) {
	for _, x := range []struct {
		text string
		want []api.Token
	}{
		{"aB_9 _ _a Xy Z0'", nil}, // the apostrophe begins a name without an end
		{"aB_9 _ _a Xy Z0", []api.Token{name("aB_9"), variable("_"), variable("_a"), variable("Xy"), variable("Z0")}},
		{"a.b.cD e.f. g", []api.Token{name("a.b.cD"), name("e.f"), stop(), name("g")}},
		{"a..b", []api.Token{name("a"), name(".."), name("b")}},
		{"a.+b", []api.Token{name("a"), name(".+"), name("b")}},
		{"a:b", []api.Token{name("a"), name(":"), name("b")}},
		{"a.% b", []api.Token{name("a"), stop()}},
		{"a.\nb.\tc. d", []api.Token{name("a"), stop(), name("b"), stop(), name("c"), stop(), name("d")}},
		{"'a'.", []api.Token{name("a"), stop()}},
		{"X.", []api.Token{variable("X"), stop()}},
		{"+-*/\\^<>=~:.?@#&$", []api.Token{name("+-*/\\^<>=~:.?@#&$")}},
		{"a:-.", []api.Token{name("a"), name(":-.")}},
		{"//* */", []api.Token{name("//*"), name("*/")}},
		{"+/*b*/", []api.Token{name("+/*"), name("b"), name("*/")}},
		{"a./*b*/", []api.Token{name("a"), name("./*"), name("b"), name("*/")}},
		{"a/*/*/b", []api.Token{name("a"), name("b")}},
		{"/* ' \" * / /* */a", []api.Token{name("a")}},
		{"% '\n%/*\na", []api.Token{name("a")}},
		{";;", []api.Token{name(";"), name(";")}},
		{"-;-", []api.Token{name("-"), name(";"), name("-")}},
		{"!", []api.Token{name("!")}},
		{"!!", []api.Token{name("!"), name("!")}},
		{"!.", []api.Token{name("!"), stop()}},
		{"!. X", []api.Token{name("!"), stop(), variable("X")}},
		{"!X", []api.Token{name("!"), variable("X")}},
		{"!:X", []api.Token{name("!:"), variable("X")}},
		{"!._", []api.Token{name("!."), variable("_")}},
		{"!:_a", []api.Token{name("!:"), variable("_a")}},
		{"!:x", []api.Token{name("!"), name(":"), name("x")}},
		{"!: X", []api.Token{name("!"), name(":"), variable("X")}},
		{"!:-X", []api.Token{name("!"), name(":-"), variable("X")}},
		{"!..X", []api.Token{name("!"), name(".."), variable("X")}},
		{"'!:'X", []api.Token{name("!:"), variable("X")}},
		{"'a\\\\b\\'c'", []api.Token{name("a\\b'c")}},
		{"'a' 'A' '[]' '\"' '/*'", []api.Token{name("a"), name("A"), name("[]"), name("\""), name("/*")}},
		{"'a''b'", []api.Token{name("a"), name("b")}},
		{"007 0 10'a' 12ab", []api.Token{digits("007"), digits("0"), digits("10"), name("a"), digits("12"), name("ab")}},
		{"00'a'", []api.Token{digits("00"), name("a")}},
		{"4611686018427387903", []api.Token{digits("4611686018427387903")}},
		{"00000000000000000000000000004611686018427387903", []api.Token{digits("00000000000000000000000000004611686018427387903")}},
		{"0'a 0'  0'~ 0'0", []api.Token{char("a"), char(" "), char("~"), char("0")}},
		{"0'ab", []api.Token{char("a"), name("b")}},
		{"0''0'\"0'%", []api.Token{char("'"), char("\""), char("%")}},
		{"0'\\n0'\\t0'\\\\", []api.Token{char("\n"), char("\t"), char("\\")}},
		{"0'\\nn", []api.Token{char("\n"), name("n")}},
		{"\"\" \"a\\n\\t\\\\\\\"'%/*b\"", []api.Token{str(""), str("a\n\t\\\"'%/*b")}},
		{"\"a\"\"b\"", []api.Token{str("a"), str("b")}},
		{"()[]{},|", []api.Token{punct("("), punct(")"), punct("["), punct("]"), punct("{"), punct("}"), punct(","), punct("|")}},
		{"a( X( 'a b'( a.b( :-( ;( !(", []api.Token{
			name("a"), punct("(("), variable("X"), punct("(("), name("a b"), punct("(("), name("a.b"), punct("(("),
			name(":-"), punct("(("), name(";"), punct("(("), name("!"), punct("(("),
		}},
		{"a (X/**/(1((a((", []api.Token{
			name("a"), punct("("), variable("X"), punct("("), digits("1"), punct("("), punct("("),
			name("a"), punct("(("), punct("("),
		}},
		{"0'a(\"a\"(](", []api.Token{char("a"), punct("("), str("a"), punct("("), punct("]"), punct("(")}},
		{". (", []api.Token{stop(), punct("(")}},
	} {
		l, f := Tokens(x.text)
		if x.want == nil {
			if f.Code == api.OK {
				t.Errorf("%q: %v", x.text, l)
			}
			continue
		}
		if f.Code != api.OK || !slices.Equal(unplaced(l), x.want) {
			t.Errorf("%q: %v %v", x.text, l, f)
		}
	}
}

// P1.1: faults, and which one of several is meant.
func TestFaults(t *testing.T) {
	long := strings.Repeat("a", api.MaxName+1)
	for _, x := range []struct {
		text string
		at   int
		code api.Errno
	}{
		{strings.Repeat("\x01", api.MaxSource+1), 0, api.ErrLimit},
		{"\x00", 0, api.ErrForm},
		{"a\r", 1, api.ErrForm},
		{"a \x7f", 2, api.ErrForm},
		{"a \x80", 2, api.ErrForm},
		{"a `", 2, api.ErrForm},
		{"% a\x01", 3, api.ErrForm},
		{"/* a\x01 */", 4, api.ErrForm},
		{"/* a\x01", 4, api.ErrForm},
		{"'a\x01b'", 2, api.ErrForm},
		{"\"a\xff\"", 2, api.ErrForm},
		{"0'\x01", 2, api.ErrForm},
		{"0'\\\x01", 3, api.ErrForm},
		{" /* a", 1, api.ErrEnd},
		{"/*/", 0, api.ErrEnd},
		{"/* *", 0, api.ErrEnd},
		{" 'a", 1, api.ErrEnd},
		{"'", 0, api.ErrEnd},
		{"'a\\'", 0, api.ErrEnd},
		{"'a\\", 0, api.ErrEnd},
		{"'a.b", 0, api.ErrEnd},
		{" \"a", 1, api.ErrEnd},
		{"\"a\\\"", 0, api.ErrEnd},
		{"\"\\", 0, api.ErrEnd},
		{"a.B", 1, api.ErrSyntax},
		{"a._", 1, api.ErrSyntax},
		{"a.1", 1, api.ErrSyntax},
		{"a.(", 1, api.ErrSyntax},
		{"a.'b'", 1, api.ErrSyntax},
		{"a.;", 1, api.ErrSyntax},
		{"X.y", 1, api.ErrSyntax},
		{"'a'.b", 3, api.ErrSyntax},
		{"!.x", 1, api.ErrSyntax},
		{"a.\x01", 1, api.ErrSyntax},
		{" ''", 1, api.ErrSyntax},
		{" 'a.b'", 1, api.ErrSyntax},
		{" '.'", 1, api.ErrSyntax},
		{"'a\nb'", 2, api.ErrSyntax},
		{"'a\tb'", 2, api.ErrSyntax},
		{"\"a\nb\"", 2, api.ErrSyntax},
		{"\"a\tb\"", 2, api.ErrSyntax},
		{"'.\n", 2, api.ErrSyntax},
		{"'a.\\q'", 3, api.ErrSyntax},
		{"'\\n'", 1, api.ErrSyntax},
		{"'\\\"'", 1, api.ErrSyntax},
		{"\"\\'\"", 1, api.ErrSyntax},
		{"\"a\\q", 2, api.ErrSyntax},
		// a byte that no text has, directly behind a backslash, and what is met before it
		{"\"a\\\x01", 3, api.ErrForm},
		{"\"\\\x80\"", 2, api.ErrForm},
		{"'\\\x01", 2, api.ErrForm},
		{"'a\\\x7f'", 3, api.ErrForm},
		{"'.\\\r'", 3, api.ErrForm},
		{"\"\\\x1f\n", 2, api.ErrForm},
		{"'\\q\x01'", 1, api.ErrSyntax},
		{"\"\n\\\x01\"", 1, api.ErrSyntax},
		{"'\\\t'", 1, api.ErrSyntax},
		{"\"a\\\n", 2, api.ErrSyntax},
		{" 0'", 1, api.ErrSyntax},
		{" 0'\\", 1, api.ErrSyntax},
		{" 0'\\q", 1, api.ErrSyntax},
		{" 0'\\'", 1, api.ErrSyntax},
		{" 0'\n", 1, api.ErrSyntax},
		{" 0'\t", 1, api.ErrSyntax},
		{" " + long, 1, api.ErrLimit},
		{" A" + long, 1, api.ErrLimit},
		{" b." + long + ".c", 1, api.ErrLimit},
		{" '" + long + "'", 1, api.ErrLimit},
		{" '" + long + ".'", 1, api.ErrSyntax},
		{" '" + long + "\x01'", 43, api.ErrForm},
		{" " + strings.Repeat("+", api.MaxName+1), 1, api.ErrLimit},
		{" " + strings.Repeat("+.", api.MaxName), 1, api.ErrLimit},
		{" 4611686018427387904", 1, api.ErrRange},
		{" 99999999999999999999999999", 1, api.ErrRange},
		{"a.B `", 1, api.ErrSyntax},
		{"` a.B", 0, api.ErrForm},
		{"4611686018427387904 \x01", 0, api.ErrRange},
	} {
		l, f := Tokens(x.text)
		if l != nil || f != (api.Fault{At: x.at, Code: x.code}) {
			t.Errorf("%.60q: %v %v, not %d %v", x.text, l, f, x.at, x.code)
		}
	}
}

// P1.1: what just keeps to the limits is accepted.
func TestLimits(t *testing.T) {
	most := strings.Repeat("a", api.MaxName)
	for _, text := range []string{
		most,
		most + "." + most + "." + most,
		strings.ToUpper(most),
		"'" + strings.Repeat("\\\\", api.MaxName) + "'",
		strings.Repeat("+", api.MaxName),
		strings.Repeat(" ", api.MaxSource),
		"\"" + strings.Repeat("a", api.MaxSource-2) + "\"",
		strings.Repeat("0", api.MaxSource),
		strings.Repeat("(", api.MaxSource),
	} {
		l, f := Tokens(text)
		if f != (api.Fault{}) || l[len(l)-1] != (api.Token{At: len(text)}) {
			t.Errorf("%.60q: %v", text, f)
		}
	}
}
