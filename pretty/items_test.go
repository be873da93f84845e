package pretty

import (
	"strings"
	"testing"

	"cinnabar/api"
)

// P3.1: the lines of items, with their goals, points and line ends.
func TestCanonical(t *testing.T) {
	for _, x := range [][2]string{
		{"", ""}, {" % c\n", ""}, {"a.", "a.\n"}, {"a.b(X) . c.", "a.b(X).\nc.\n"}, {"X.", "X.\n"}, {"1.", "1.\n"}, {"\"a\".", "\"a\".\n"},
		{"a:-b.", "a :-\n    b.\n"}, {"a:-b,c.", "a :-\n    b,\n    c.\n"}, {"a:-b,c,d,e.", "a :-\n    b,\n    c,\n    d,\n    e.\n"}, {"s-->[a],{b}.", "s -->\n    [a],\n    {b}.\n"}, {"s --> [] .", "s -->\n    [].\n"},
		{"a:- (b,c),d.", "a :-\n    (b, c),\n    d.\n"}, {"a:-b,(c,d).", "a :-\n    b,\n    c,\n    d.\n"}, {"a:- ((b,c),d),e.", "a :-\n    ((b, c), d),\n    e.\n"}, {"a :- ','(b).", "a :-\n    ','(b).\n"}, {"a :- ','(b,c,d),e.", "a :-\n    ','(b, c, d),\n    e.\n"}, {"a :- ','(b,c).", "a :-\n    b,\n    c.\n"},
		{"a:- (b;c).", "a :-\n    (b ; c).\n"}, {"a:-b;c.", "a :-\n    (b ; c).\n"}, {"a:-b,(c->d;e),f.", "a :-\n    b,\n    (c -> d ; e),\n    f.\n"}, {"a:-if b then c else d.", "a :-\n    (if b then c else d).\n"}, {"a :- b & c, d.", "a :-\n    (b & c, d).\n"},
		{"a:- not b, X = Y, \\+ (c, d).", "a :-\n    not b,\n    X = Y,\n    \\+ (c, d).\n"}, {"a :- some [X] (p(X), q(X)), r.", "a :-\n    some [X] (p(X), q(X)),\n    r.\n"}, {"a <= b :- c <= d.", "a <= b :-\n    c <= d.\n"},
		{"(a:-b):-c.", "(a :- b) :-\n    c.\n"}, {"a:- (b:-c).", "a :-\n    (b :- c).\n"}, {"(a-->b):-c,(d-->e).", "(a --> b) :-\n    c,\n    (d --> e).\n"}, {"a,b-->c.", "a, b -->\n    c.\n"}, {"(a;b):-c.", "a ; b :-\n    c.\n"}, {"a ---> b :- c.", "a ---> b :-\n    c.\n"},
		{"(:-a):-b.", "(:- a) :-\n    b.\n"}, {"module a :- b.", "module a :-\n    b.\n"}, {"(-):-a.", "(-) :-\n    a.\n"}, {"a :- (-).", "a :-\n    (-).\n"}, {"a :- -, (=), b.", "a :-\n    (-),\n    (=),\n    b.\n"}, {"a :- '!:'.", "a :-\n    '!:'.\n"}, {"a :- !.", "a :-\n    !.\n"}, {"a :- !X.", "a :-\n    !X.\n"},
		{":- module a. :- a.", ":- module a.\n:- a.\n"}, {":-(a,b).", "a :-\n    b.\n"}, {":-(a).", ":- a.\n"}, {":-(a,b,c).", ":-(a, b, c).\n"}, {":- (a,b).", ":- a, b.\n"}, {"-->(a).", "-->(a).\n"}, {"-->(a,b).", "a -->\n    b.\n"}, {":-(-).", ":- (-).\n"},
		{"[a|[b]].", "[a, b].\n"}, {"a,b.", "a, b.\n"}, {"a;b.", "a ; b.\n"}, {"if a then b else c.", "if a then b else c.\n"}, {":- type t ---> a ; b(c).", ":- type t ---> a ; b(c).\n"}, {"P(X):-call(q,Y).", "P(X) :-\n    call(q, Y).\n"}, {"f((a:-b)).", "f((a :- b)).\n"},
		{"f(X) = Y :- Y = X + 1.", "f(X) = Y :-\n    Y = X + 1.\n"}, {"p(!X) :- !:X = !.X - (1).", "p(!X) :-\n    !:X = !.X - 1.\n"}, {"x - (y - z).", "x - (y - z).\n"}, {"(x - y) - z.", "x - y - z.\n"}, {"-(-).", "- (-).\n"}, {"-(1).", "-(1).\n"}, {"'A'(b).", "'A'(b).\n"},
	} {
		if s, f := Canonical(x[0]); f != (api.Fault{}) || s != x[1] {
			t.Errorf("%q: %q %v, not %q", x[0], s, f, x[1])
		}
	}
}

// P3.1: a point directly behind a name of signs has a blank in front, and no other one.
func TestPoints(t *testing.T) {
	for _, x := range []struct {
		term api.Term
		want string
	}{
		{app("-"), "- .\n"}, {app(":-"), ":- .\n"}, {app("=.."), "=.. .\n"}, {app("#"), "# .\n"}, {app("\\"), "\\ .\n"}, {app(".."), ".. .\n"}, {app("+/*"), "+/* .\n"},
		{app("not"), "not.\n"}, {app("mod"), "mod.\n"}, {app("!"), "!.\n"}, {app(";"), ";.\n"}, {app("!:"), "'!:'.\n"}, {app("/*"), "'/*'.\n"}, {app(","), "','.\n"}, {app("+ "), "'+ '.\n"}, {app("a+"), "'a+'.\n"}, {app("[]"), "[].\n"}, {app("a"), "a.\n"},
		{char('+'), "0'+.\n"}, {char('.'), "0'..\n"}, {str("+"), "\"+\".\n"}, {num(-1), "-1.\n"}, {variab("X"), "X.\n"},
		{app("=", app("a"), app("#")), "a = # .\n"}, {app("=", app("a"), app("-")), "a = (-).\n"}, {app("=", app("#"), app("a")), "# = a.\n"}, {app("not", app("?")), "not ? .\n"}, {app("some", app("#"), app("#")), "some # # .\n"}, {app("#", app("a")), "#(a).\n"},
		{app("[|]", app("#"), app("#")), "[# | #].\n"}, {app("{}", app("-")), "{-}.\n"}, {app("=", app("#"), char('+')), "# = 0'+.\n"},
		{app(":-", app("a"), app("#")), "a :-\n    # .\n"}, {app(":-", app("a"), app(",", app("#"), app("b"))), "a :-\n    #,\n    b.\n"}, {app("-->", app("#"), app(",", app("b"), app("not", app("#")))), "# -->\n    b,\n    not # .\n"}, {app(":-", app("#"), char('#')), "# :-\n    0'#.\n"},
	} {
		if s, e := Items([]api.Term{x.term}); e != api.OK || s != x.want {
			t.Errorf("%s: %q %v, not %q", show(x.term), s, e, x.want)
		}
		if s, e := Items([]api.Term{x.term, app("b"), x.term}); e != api.OK || s != x.want+"b.\n"+x.want {
			t.Errorf("%s: %q %v", show(x.term), s, e)
		}
	}
}

// P3.1: as a part of a term a clause stands in one line.
func TestClausesInTerms(t *testing.T) {
	wantTerm(t, must(t, "a :- b, c"), 1200, "a :- b, c")
	wantTerm(t, must(t, "a --> b ; c"), 1200, "a --> b ; c")
	wantTerm(t, must(t, "a :- b, c"), 1199, "(a :- b, c)")
	if s, e := Items([]api.Term{must(t, "{a :- b, c}")}); e != api.OK || s != "{a :- b, c}.\n" {
		t.Error(s, e)
	}
}

// P3.1: the errors of Term, and their order.
func TestTermErrors(t *testing.T) {
	deep := app("a")
	for range api.MaxNest {
		deep = app("f", deep)
	}
	long := str(strings.Repeat("a", api.MaxSource))
	for _, x := range []struct {
		term api.Term
		m    int
		want api.Errno
	}{
		{app("a"), -1, api.ErrArg}, {app("a"), 1201, api.ErrArg}, {app("a"), -1 << 63, api.ErrArg}, {app("a"), 1<<63 - 1, api.ErrArg}, {app("a"), 0, api.OK}, {app("a"), 1200, api.OK},
		{api.Term{Kind: api.TLam}, 1201, api.ErrArg}, {api.Term{Kind: api.TLam}, 1200, api.ErrKind}, {api.Term{Kind: -1}, 0, api.ErrKind}, {app("f", app("g", api.Term{Kind: 9})), 0, api.ErrKind},
		{deep, 1200, api.ErrLimit}, {deep, -1, api.ErrArg}, {deep.Args[0], 1200, api.OK}, {variab("x"), 1200, api.ErrForm}, {variab(""), 1200, api.ErrForm}, {app(""), 1200, api.ErrForm}, {app("a\x01"), 1200, api.ErrForm}, {app("!.", app("a")), 1200, api.ErrForm},
		{app("[|]", app("a")), 1200, api.ErrForm}, {app("[]", app("a")), 1200, api.ErrForm}, {app("{}"), 1200, api.ErrForm}, {api.Term{Kind: api.TVar, Name: "X", Args: some(1)}, 1200, api.ErrForm}, {api.Term{Kind: api.TApp, Name: "a", Num: 1}, 1200, api.ErrForm},
		{num(api.MaxInt + 1), 1200, api.ErrRange}, {num(-api.MaxInt - 1), 1200, api.ErrRange}, {char(1), 1200, api.ErrRange}, {char(256 + 'a'), 1200, api.ErrRange}, {char(-1), 1200, api.ErrRange}, {str("\x7f"), 1200, api.ErrRange},
		{app(strings.Repeat("a", 41)), 1200, api.ErrLimit}, {app("f", some(33)...), 1200, api.ErrLimit}, {app("f", some(32)...), 1200, api.OK},
		{long, 1200, api.ErrLimit}, {app("f", long, num(api.MaxInt+1)), 1200, api.ErrRange}, {app("f", long, api.Term{Kind: 7}), 1201, api.ErrArg},
	} {
		s, e := Term(x.term, x.m)
		if e != x.want || (s == "") != (e != api.OK) {
			t.Errorf("%.80s, %d: %.80q %v", show(x.term), x.m, s, e)
		}
	}
}

// P3.1: the errors of Items, and their order: those of terms come before a text that is too long.
func TestItemsErrors(t *testing.T) {
	long := str(strings.Repeat("a", api.MaxSource))
	for _, x := range []struct {
		list []api.Term
		want api.Errno
	}{
		{nil, api.OK}, {[]api.Term{}, api.OK}, {[]api.Term{app("a"), num(1)}, api.OK},
		{[]api.Term{app("a"), {Kind: api.TLam}, variab("x")}, api.ErrKind}, {[]api.Term{variab("x"), {Kind: api.TLam}}, api.ErrForm}, {[]api.Term{app("a"), num(api.MaxInt + 1), {Kind: 8}}, api.ErrRange}, {[]api.Term{app("f", app("f", some(33)...)), {Kind: 8}}, api.ErrLimit},
		{[]api.Term{long}, api.ErrLimit}, {[]api.Term{long, variab("x")}, api.ErrForm}, {[]api.Term{app("a"), long, app("a")}, api.ErrLimit},
	} {
		if s, e := Items(x.list); e != x.want || e != api.OK && s != "" {
			t.Errorf("%.80q %v, not %v", s, e, x.want)
		}
	}
}

// P3.1: a text has at most MaxSource bytes, wherever they come from.
func TestTermLimit(t *testing.T) {
	const most = api.MaxSource
	text := func(n int) api.Term { return str(strings.Repeat("a", n)) }
	for i, x := range []struct {
		fits, not api.Term
		m         int
		rest      int // how many bytes less than most what fits has
	}{
		{text(most - 2), text(most - 1), 1200, 0},
		{str(strings.Repeat("\n", most/2-1)), str(strings.Repeat("\n", most/2)), 1200, 0},
		{app("f", text(most-5)), app("f", text(most-4)), 1200, 0},
		{app("f", text(most-8), app("a")), app("f", app("a"), text(most-7)), 1200, 0},
		{app("[|]", text(most-4), app("[]")), app("[|]", text(most-3), app("[]")), 1200, 0},
		{app("[|]", app("a"), text(most-8)), app("[|]", app("a"), text(most-7)), 1200, 0},
		{app("{}", text(most-4)), app("{}", text(most-3)), 1200, 0},
		{app("-", text(most-4)), app("-", text(most-3)), 500, 0},
		{app("-", text(most-6)), app("-", text(most-5)), 499, 0},
		{app("=", text(most-6), app("a")), app("=", app("a"), text(most-5)), 700, 0},
		{app("call", variab("X"), text(most-5)), app("call", variab("X"), text(most-4)), 0, 0},
		{app("some", text(most-9), app("a")), app("some", app("a"), text(most-8)), 1200, 0},
		{chain(",", (most-1)/3), chain(",", (most-1)/3+1), 1200, 0},
		{chain("[|]", (most-4)/3), chain("[|]", (most-4)/3+1), 1200, 0},
		{chain(";", most/4-1), chain(";", most/4), 1200, 3},
		{chain("&", most/4-1), chain("&", most/4), 1024, 1},
		{app("a"), chain(",", 1000000), 0, most - 1},
		{app("a"), chain("[|]", 1000000), 0, most - 1},
		{app("a"), chain("&", 1000000), 1200, most - 1},
		{app("a"), app("f", chain(";", 10000), chain(";", 10000)), 1200, most - 1},
	} {
		if s, e := Term(x.fits, x.m); e != api.OK || len(s) != most-x.rest {
			t.Errorf("%d: %d bytes, %v", i, len(s), e)
		}
		if s, e := Term(x.not, x.m); e != api.ErrLimit || s != "" {
			t.Errorf("%d: %d bytes, %v", i, len(s), e)
		}
	}
}

// P3.1: likewise the lines of items.
func TestItemsLimit(t *testing.T) {
	const most = api.MaxSource
	text := func(n int) api.Term { return str(strings.Repeat("a", n)) }
	clause := func(goal api.Term) api.Term { return app(":-", app("a"), goal) }
	for i, x := range []struct {
		list []api.Term
		want int // bytes; 0: too many
	}{
		{[]api.Term{text(most - 4)}, most}, {[]api.Term{text(most - 3)}, 0},
		{[]api.Term{text(most - 7), app("a")}, most}, {[]api.Term{text(most - 7), app("-")}, 0},
		{[]api.Term{app("-"), text(most - 8)}, most}, {[]api.Term{app("-"), text(most - 7)}, 0},
		{[]api.Term{clause(text(most - 13))}, most}, {[]api.Term{clause(text(most - 12))}, 0},
		{[]api.Term{clause(app("b")), text(most - 16)}, most}, {[]api.Term{clause(app("b")), text(most - 15)}, 0},
		{[]api.Term{clause(chain(",", 9000))}, 9000*7 + 12}, {[]api.Term{clause(chain(",", 1000000))}, 0},
	} {
		s, e := Items(x.list)
		if len(s) != x.want || (e == api.OK) != (x.want > 0) || e != api.OK && e != api.ErrLimit {
			t.Errorf("%d: %d bytes, %v, not %d", i, len(s), e, x.want)
		}
	}
}

// P3.1: the faults of Canonical are those of the text, and then that of lines that are too long.
func TestCanonicalFaults(t *testing.T) {
	deep := strings.Repeat("f(", api.MaxNest) + "a" + strings.Repeat(")", api.MaxNest) + ". "
	full := strings.Repeat("a:-b.\n", api.MaxSource/6)
	end := len(full)
	for _, x := range []struct {
		text string
		want api.Fault
	}{
		{"a. b \x01", api.Fault{At: 5, Code: api.ErrForm}}, {"a. 'b", api.Fault{At: 3, Code: api.ErrEnd}}, {"a. 4611686018427387904.", api.Fault{At: 3, Code: api.ErrRange}},
		{"a = b = c.", api.Fault{At: 6, Code: api.ErrSyntax}}, {"f(a", api.Fault{At: 3, Code: api.ErrEnd}}, {"a", api.Fault{At: 1, Code: api.ErrEnd}}, {"a. " + deep + "b.", api.Fault{At: 3, Code: api.ErrLimit}},
		{strings.Repeat(" ", api.MaxSource+1), api.Fault{Code: api.ErrLimit}},
		// The text is right, but its lines are longer. Any other fault comes first.
		{full, api.Fault{Code: api.ErrLimit}}, {full[:end-3] + "b", api.Fault{At: end - 2, Code: api.ErrEnd}}, {full + "-", api.Fault{At: end + 1, Code: api.ErrEnd}}, {full + " b)", api.Fault{At: end + 2, Code: api.ErrSyntax}},
	} {
		if s, f := Canonical(x.text); s != "" || f != x.want {
			t.Errorf("%.60q: %.60q %v, not %v", x.text, s, f, x.want)
		}
	}
	for _, x := range []string{"a.\n", "a :-\n    b.\n"} {
		s := strings.Repeat(x, api.MaxSource/len(x))
		if got, f := Canonical(s); f != (api.Fault{}) || got != s {
			t.Errorf("%.20q: %.60q %v", x, got, f)
		}
	}
}
