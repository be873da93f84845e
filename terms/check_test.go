package terms

import (
	"strings"
	"testing"

	"cinnabar/api"
)

// P2.2: which terms are right, and what is wrong with others.
func TestCheck(t *testing.T) {
	most := strings.Repeat("a", api.MaxName)
	for i, x := range []struct {
		term api.Term
		want api.Errno
	}{
		{variab("X"), api.OK}, {variab("_"), api.OK}, {variab("_1aB"), api.OK}, {variab("A" + most[1:]), api.OK}, {num(api.MaxInt), api.OK}, {num(-api.MaxInt), api.OK}, {num(0), api.OK},
		{char(9), api.OK}, {char(10), api.OK}, {char(32), api.OK}, {char(126), api.OK}, {str(""), api.OK}, {str("a\t\n ~"), api.OK}, {str(strings.Repeat("a", 70000)), api.OK},
		{app("a"), api.OK}, {app("a b"), api.OK}, {app("A"), api.OK}, {app("a.b"), api.OK}, {app(".."), api.OK}, {app("=.."), api.OK}, {app("!"), api.OK}, {app("/*"), api.OK}, {app("'\\"), api.OK}, {app(","), api.OK}, {app(" "), api.OK}, {app("~"), api.OK},
		{app(most + "." + most), api.OK}, {app(most, app("a")), api.OK}, {app("{}", app("a")), api.OK}, {app("[|]", app("a"), app("b")), api.OK}, {app("[]"), api.OK}, {app("!.", variab("X")), api.OK}, {app("!", num(1)), api.OK}, {app("!:", num(1)), api.OK},
		{app("f", some(32)...), api.OK}, {app("call", some(32)...), api.OK}, {app("call", append([]api.Term{variab("X")}, some(32)...)...), api.OK},
		{api.Term{Kind: api.TApp, Name: "a", At: -3}, api.OK}, {api.Term{Kind: api.TVar, Name: "X", Args: []api.Term{}}, api.OK},
		// kinds
		{api.Term{Kind: api.TLam}, api.ErrKind}, {api.Term{Kind: -1}, api.ErrKind}, {api.Term{Kind: 6, Num: 1, Name: "x"}, api.ErrKind}, {app("f", api.Term{Kind: 5}), api.ErrKind},
		// fields
		{api.Term{Kind: api.TVar, Name: "X", Num: 1}, api.ErrForm}, {api.Term{Kind: api.TVar, Name: "X", Args: some(1)}, api.ErrForm}, {api.Term{Kind: api.TInt, Name: "1"}, api.ErrForm}, {api.Term{Kind: api.TInt, Args: some(1)}, api.ErrForm},
		{api.Term{Kind: api.TChar, Num: 32, Name: "1"}, api.ErrForm}, {api.Term{Kind: api.TChar, Num: 32, Args: some(1)}, api.ErrForm}, {api.Term{Kind: api.TText, Num: 1}, api.ErrForm}, {api.Term{Kind: api.TText, Args: some(1)}, api.ErrForm}, {api.Term{Kind: api.TApp, Name: "a", Num: 1}, api.ErrForm},
		{api.Term{Kind: api.TInt, Num: api.MaxInt + 1, Name: "1"}, api.ErrForm}, {api.Term{Kind: api.TText, Name: "\x01", Num: 1}, api.ErrForm},
		// names
		{variab(""), api.ErrForm}, {variab("x"), api.ErrForm}, {variab("X.Y"), api.ErrForm}, {variab("X "), api.ErrForm}, {variab("1"), api.ErrForm},
		{app(""), api.ErrForm}, {app("\n"), api.ErrForm}, {app("a\t"), api.ErrForm}, {app("a\x7f"), api.ErrForm}, {app("\x80"), api.ErrForm}, {app("."), api.ErrForm}, {app("a.B"), api.ErrForm}, {app("a."), api.ErrForm}, {app(".a"), api.ErrForm}, {app("a b.c"), api.ErrForm}, {app("/*."), api.ErrForm}, {app("!.X"), api.ErrForm}, {app("X.y"), api.ErrForm},
		// arguments
		{app("{}"), api.ErrForm}, {app("{}", some(2)...), api.ErrForm}, {app("[|]"), api.ErrForm}, {app("[|]", some(1)...), api.ErrForm}, {app("[|]", some(3)...), api.ErrForm}, {app("[]", app("a")), api.ErrForm}, {app("[]", some(40)...), api.ErrForm}, {app("!.", app("a")), api.ErrForm}, {app("!.", api.Term{Kind: 9}), api.ErrForm},
		{app("!."), api.ErrForm}, {app("!.", variab("X"), variab("X")), api.ErrForm}, {app("!.", num(1), num(1)), api.ErrForm}, {app("!.", append([]api.Term{variab("X")}, some(32)...)...), api.ErrForm}, {app("f", app("!.")), api.ErrForm},
		// ranges
		{num(api.MaxInt + 1), api.ErrRange}, {num(-api.MaxInt - 1), api.ErrRange}, {num(-1 << 63), api.ErrRange}, {char(8), api.ErrRange}, {char(11), api.ErrRange}, {char(31), api.ErrRange}, {char(127), api.ErrRange}, {char(-1), api.ErrRange}, {char(256 + 97), api.ErrRange}, {str("a\x00"), api.ErrRange}, {str("\x7f"), api.ErrRange}, {str("\xff"), api.ErrRange},
		// limits
		{variab("A" + most), api.ErrLimit}, {app("a" + most), api.ErrLimit}, {app("b.a" + most), api.ErrLimit}, {app("A" + most), api.ErrLimit}, {app("f", some(33)...), api.ErrLimit}, {app("call", some(33)...), api.ErrLimit}, {app("f", append([]api.Term{variab("X")}, some(32)...)...), api.ErrLimit},
		{app("call", append([]api.Term{variab("X")}, some(33)...)...), api.ErrLimit}, {app("call", append([]api.Term{app("a"), variab("X")}, some(31)...)...), api.ErrLimit},
		// the order: nesting first, then in preorder
		{nest(63, app("a")), api.OK}, {nest(64, app("a")), api.ErrLimit}, {app("", nest(64, api.Term{Kind: 9})), api.ErrLimit}, {nest(62, variab("x")), api.ErrForm}, {chain("[|]", 100000), api.OK}, {chain(",", 1000), api.OK}, {chain("-", 63), api.OK}, {chain("-", 64), api.ErrLimit},
		{app("f", variab("x"), num(-1<<63)), api.ErrForm}, {app("f", num(-1<<63), variab("x")), api.ErrRange}, {app("f", app("g", num(-1<<63)), variab("x")), api.ErrRange}, {app("", api.Term{Kind: 9}), api.ErrForm}, {app("f", append(some(32), api.Term{Kind: 9})...), api.ErrLimit}, {app("f", app("a"+most), api.Term{Kind: 9}), api.ErrLimit},
		{app("{}", api.Term{Kind: 9}), api.ErrKind}, {app("", some(33)...), api.ErrForm}, {app("a.B", some(33)...), api.ErrForm}, {app("[]", nest(70, app("a"))), api.ErrLimit},
	} {
		if e := Check(x.term); e != x.want {
			t.Errorf("%d (%s): %v, not %v", i, x.term.Name, e, x.want)
		}
	}
}

// P2.2: the nesting, and the number of terms.
func TestDepthAndSize(t *testing.T) {
	for i, x := range []struct {
		term        api.Term
		depth, size int
	}{
		{variab("X"), 1, 1}, {num(1), 1, 1}, {app("a"), 1, 1}, {app("f", app("a")), 2, 2}, {app("f", app("g", app("a")), app("b")), 3, 4}, {app("f", app("b"), app("g", app("a"))), 3, 4},
		{app(",", app("a"), app("b")), 2, 3}, {app(";", app("a"), app("f", app("b"))), 2, 4}, {app("&", app("f", app("b")), app("a")), 3, 4}, {app("[|]", app("a"), app("[]")), 2, 3}, {app("[|]", app("a"), app("f", app("f", app("b")))), 3, 5},
		{chain(",", 1000), 2, 2001}, {chain(";", 1000), 2, 2001}, {chain("&", 1000), 2, 2001}, {chain("[|]", 1000), 2, 2001}, {chain("->", 10), 11, 21}, {chain("f", 10), 11, 21},
		{app(",", app("a")), 2, 2}, {app(",", app("a"), app("b"), app("c")), 2, 4}, {app(",", app("a"), app("f", app("b")), app("c")), 3, 5}, {app(",", app("a"), app("b"), app("f", app("c"))), 3, 5}, {app("f", chain(",", 5)), 3, 12},
		{api.Term{Kind: api.TVar, Name: ",", Args: []api.Term{app("a"), app("f", app("b"))}}, 3, 4}, {api.Term{Kind: 77, Args: some(3)}, 2, 4},
		{nest(100000, app("a")), 100001, 100001}, {chain("[|]", 1000000), 2, 2000001}, {app(",", app(",", app("a"), app("b")), app("c")), 3, 5},
	} {
		if d, n := Depth(x.term), Size(x.term); d != x.depth || n != x.size {
			t.Errorf("%d (%s): %d %d, not %d %d", i, x.term.Name, d, n, x.depth, x.size)
		}
	}
}

// P2.2: what two terms may differ in.
func TestSame(t *testing.T) {
	same := []api.Term{
		app("f", app("a"), variab("X"), num(1)), app("f", app("a"), variab("Y"), num(1)), app("f", app("a"), variab("X"), num(2)), app("f", app("a"), variab("X")), app("f", variab("X"), app("a"), num(1)), app("g", app("a"), variab("X"), num(1)),
		app("X"), variab("X"), str("X"), num(0), char(0), char(1), api.Term{Kind: 9}, app("f", nest(3, app("a"))), app("f", nest(3, app("b"))), chain("[|]", 3), chain("[|]", 4), chain("[|]", 1000000),
	}
	for i, a := range same {
		for j, b := range same {
			if Same(a, b) != (i == j) {
				t.Error(i, j)
			}
		}
	}
	a := api.Term{Kind: api.TApp, Name: "f", At: 3, Args: []api.Term{{Kind: api.TVar, Name: "X", At: 5}}}
	if !Same(a, app("f", variab("X"))) || !Same(app("f"), api.Term{Kind: api.TApp, Name: "f", Args: []api.Term{}, At: 1}) {
		t.Error("places")
	}
}
