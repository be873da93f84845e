package tokens

import (
	"strings"
	"testing"

	"cinnabar/api"
)

// P1.2: what is written.
func TestText(t *testing.T) {
	for _, x := range []struct {
		list []api.Token
		want string
	}{
		{nil, ""},
		{[]api.Token{{}}, ""},
		{[]api.Token{name("a")}, "a"},
		{[]api.Token{name("a"), variable("X"), digits("007")}, "a X 007"},
		{[]api.Token{name("a"), stop(), name("b"), stop()}, "a .\nb .\n"},
		{[]api.Token{stop(), stop()}, ".\n.\n"},
		{[]api.Token{name("p"), punct("(("), variable("X"), punct(")")}, "p( X )"},
		{[]api.Token{name("p"), punct("("), variable("X"), punct("(("), punct("(")}, "p ( X( ("},
		{[]api.Token{name("a b"), punct("((")}, "'a b'("},
		{[]api.Token{name("!."), variable("X"), name("!:"), variable("Y")}, "!.X !:Y"},
		{[]api.Token{name("!:"), name("a"), name("!:")}, "'!:' a '!:'"},
		{[]api.Token{name("!:"), punct("(("), punct(")")}, "'!:'( )"},
		{[]api.Token{name("!"), variable("X")}, "! X"},
		{[]api.Token{name("!:"), variable("X"), punct("((")}, "!:X("},
		{[]api.Token{char("a"), char("'"), char("\""), char(" "), char("%")}, "0'a 0'' 0'\" 0'  0'%"},
		{[]api.Token{char("\n"), char("\t"), char("\\")}, "0'\\n 0'\\t 0'\\\\"},
		{[]api.Token{str(""), str("a'b"), str("\n\t\\\"")}, "\"\" \"a'b\" \"\\n\\t\\\\\\\"\""},
		{[]api.Token{punct("["), punct("|"), punct("{"), punct(","), punct("}")}, "[ | { , }"},
		{[]api.Token{name("a"), {}, name("b")}, "a"},
		{[]api.Token{name("a"), {}, {Kind: 99}, name("a.B"), punct("((")}, "a"},
		{[]api.Token{{Kind: api.TokName, Text: "a", At: -7}}, "a"},
		{[]api.Token{str(strings.Repeat("a", api.MaxSource-2))}, "\"" + strings.Repeat("a", api.MaxSource-2) + "\""},
	} {
		if s, e := Text(x.list); s != x.want || e != api.OK {
			t.Errorf("%v: %.60q %v", x.list, s, e)
		}
	}
}

// P1.2: errors, and which one of several is meant.
func TestTextErrors(t *testing.T) {
	big := str(strings.Repeat("a", api.MaxSource-1))
	for _, x := range []struct {
		list []api.Token
		want api.Errno
	}{
		{[]api.Token{{Kind: -1}}, api.ErrKind},
		{[]api.Token{name("a"), {Kind: 8}, name("")}, api.ErrKind},
		{[]api.Token{name(""), {Kind: 8}}, api.ErrForm},
		{[]api.Token{name("a.B")}, api.ErrForm},
		{[]api.Token{name(strings.Repeat("a", 41)), {Kind: 8}}, api.ErrLimit},
		{[]api.Token{digits("4611686018427387904")}, api.ErrRange},
		{[]api.Token{punct("(("), {Kind: 8}}, api.ErrKind},
		{[]api.Token{punct("((")}, api.ErrForm},
		{[]api.Token{digits("1"), punct("((")}, api.ErrForm},
		{[]api.Token{name("a"), punct("(("), punct("((")}, api.ErrForm},
		{[]api.Token{name("a"), stop(), punct("((")}, api.ErrForm},
		{[]api.Token{name("!.")}, api.ErrForm},
		{[]api.Token{name("!."), name("a")}, api.ErrForm},
		{[]api.Token{name("!."), {}, variable("X")}, api.ErrForm},
		{[]api.Token{name("!."), punct("(("), variable("X")}, api.ErrForm},
		{[]api.Token{big}, api.ErrLimit},
		{[]api.Token{big, punct("((")}, api.ErrForm},
		{[]api.Token{str(strings.Repeat("\n", api.MaxSource/2))}, api.ErrLimit},
		{[]api.Token{str(strings.Repeat("a", api.MaxSource-3)), stop()}, api.ErrLimit},
	} {
		if s, e := Text(x.list); s != "" || e != x.want {
			t.Errorf("%.60v: %.60q %v, not %v", x.list, s, e, x.want)
		}
	}
}

// P1.3: how names are written.
func TestName(t *testing.T) {
	long := strings.Repeat("a", api.MaxSource+1)
	for _, x := range [][2]string{
		{"a", "a"}, {"aB_1", "aB_1"}, {"a.b.c", "a.b.c"}, {long, long},
		{":-", ":-"}, {"..", ".."}, {"+.", "+."}, {".+", ".+"}, {"+/*", "+/*"}, {"*/", "*/"}, {";", ";"}, {"!", "!"},
		{"", "''"}, {"A", "'A'"}, {"_", "'_'"}, {"1", "'1'"}, {"[]", "'[]'"}, {",", "','"}, {"|", "'|'"}, {"(", "'('"},
		{"a b", "'a b'"}, {" a", "' a'"}, {"a ", "'a '"}, {"a%", "'a%'"}, {"a.", "'a.'"}, {"a..b", "'a..b'"}, {"a.B", "'a.B'"},
		{".", "'.'"}, {"!.", "'!.'"}, {"!:", "'!:'"}, {"!!", "'!!'"}, {";;", "';;'"}, {"-;", "'-;'"}, {"/*", "'/*'"}, {"/**/", "'/**/'"},
		{"it's", "'it\\'s'"}, {"a\\b", "'a\\\\b'"}, {"\\", "\\"}, {"'a'", "'\\'a\\''"}, {"\"", "'\"'"},
		{"\n", "'\n'"}, {"\x00\xff", "'\x00\xff'"}, {"a\x80", "'a\x80'"},
	} {
		if s := Name(x[0]); s != x[1] {
			t.Errorf("%.60q: %.60q", x[0], s)
		}
	}
}

// P1.3: which tokens are right.
func TestCheck(t *testing.T) {
	long := strings.Repeat("a", api.MaxName+1)
	for _, x := range []struct {
		kind int
		text string
		want api.Errno
	}{
		{-1, "", api.ErrKind}, {api.TokStop + 1, ".", api.ErrKind},
		{api.TokEnd, "", api.OK}, {api.TokEnd, "a", api.ErrForm},
		{api.TokName, "a", api.OK}, {api.TokName, "a.b", api.OK}, {api.TokName, "a b", api.OK}, {api.TokName, ":-", api.OK},
		{api.TokName, "+.", api.OK}, {api.TokName, "!", api.OK}, {api.TokName, "!.", api.OK}, {api.TokName, "!:", api.OK},
		{api.TokName, ";", api.OK}, {api.TokName, "/*", api.OK}, {api.TokName, "A", api.OK}, {api.TokName, "'\\", api.OK},
		{api.TokName, "", api.ErrForm}, {api.TokName, ".", api.ErrForm}, {api.TokName, "a.", api.ErrForm}, {api.TokName, ".a", api.ErrForm},
		{api.TokName, "a.B", api.ErrForm}, {api.TokName, "A.b", api.ErrForm}, {api.TokName, "a..b", api.ErrForm}, {api.TokName, "/*.", api.ErrForm},
		{api.TokName, "!.X", api.ErrForm}, {api.TokName, "a b.c", api.ErrForm}, {api.TokName, "a\n", api.ErrForm}, {api.TokName, "\x7f", api.ErrForm},
		{api.TokName, long[1:] + "." + long[1:], api.OK}, {api.TokName, long, api.ErrLimit}, {api.TokName, "b." + long, api.ErrLimit},
		{api.TokName, long[1:] + " ", api.ErrLimit}, {api.TokName, strings.Repeat("+", 41), api.ErrLimit}, {api.TokName, long + ".", api.ErrForm},
		{api.TokVar, "X", api.OK}, {api.TokVar, "_", api.OK}, {api.TokVar, "X_1a", api.OK},
		{api.TokVar, "", api.ErrForm}, {api.TokVar, "x", api.ErrForm}, {api.TokVar, "X.y", api.ErrForm}, {api.TokVar, "X ", api.ErrForm},
		{api.TokVar, "_" + long[1:], api.ErrLimit}, {api.TokVar, "-" + long, api.ErrForm},
		{api.TokInt, "0", api.OK}, {api.TokInt, "4611686018427387903", api.OK}, {api.TokInt, strings.Repeat("0", 100) + "1", api.OK},
		{api.TokInt, "", api.ErrForm}, {api.TokInt, "-1", api.ErrForm}, {api.TokInt, "+1", api.ErrForm}, {api.TokInt, "1_0", api.ErrForm},
		{api.TokInt, "4611686018427387904", api.ErrRange}, {api.TokInt, "18446744073709551617", api.ErrRange},
		{api.TokChar, "a", api.OK}, {api.TokChar, "\n", api.OK}, {api.TokChar, "\t", api.OK}, {api.TokChar, "\\", api.OK}, {api.TokChar, " ", api.OK},
		{api.TokChar, "", api.ErrForm}, {api.TokChar, "ab", api.ErrForm}, {api.TokChar, "\r", api.ErrForm}, {api.TokChar, "\x7f", api.ErrForm},
		{api.TokText, "", api.OK}, {api.TokText, "a\n\t\\\"' ~", api.OK}, {api.TokText, "\r", api.ErrForm}, {api.TokText, "a\x80", api.ErrForm},
		{api.TokPunct, "((", api.OK}, {api.TokPunct, "(", api.OK}, {api.TokPunct, ")", api.OK}, {api.TokPunct, "[", api.OK}, {api.TokPunct, "]", api.OK},
		{api.TokPunct, "{", api.OK}, {api.TokPunct, "}", api.OK}, {api.TokPunct, ",", api.OK}, {api.TokPunct, "|", api.OK},
		{api.TokPunct, "", api.ErrForm}, {api.TokPunct, "[]", api.ErrForm}, {api.TokPunct, "))", api.ErrForm}, {api.TokPunct, ";", api.ErrForm},
		{api.TokStop, ".", api.OK}, {api.TokStop, "", api.ErrForm}, {api.TokStop, "..", api.ErrForm},
	} {
		if e := Check(api.Token{Kind: x.kind, Text: x.text, At: -1}); e != x.want {
			t.Errorf("%d %.60q: %v, not %v", x.kind, x.text, e, x.want)
		}
	}
}
