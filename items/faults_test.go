package items

import (
	"slices"
	"strconv"
	"strings"
	"testing"

	"cinnabar/api"
	"cinnabar/terms"
)

// marked takes a § out of a text, and returns its place, or 0.
func marked(text string) (string, int) {
	if before, behind, ok := strings.Cut(text, "§"); ok {
		return before + behind, len(before)
	}
	return text, 0
}

// wantFaults checks the faults of texts, which are at the § in each of them; without one at 0.
func wantFaults(t *testing.T, before string, code api.Errno, texts ...string) {
	t.Helper()
	for _, x := range texts {
		text, at := marked(before + x)
		u, f := Text(text)
		if want := (api.Fault{At: at, Code: code}); f != want {
			t.Errorf("%s: %v, not %v", x, f, want)
		}
		if whole(u) != whole(Unit{}) {
			t.Errorf("%s: %s", x, whole(u))
		}
	}
}

// P4.1: terms that cannot be what must stand there.
func TestSyntaxFaults(t *testing.T) {
	// the first item
	wantFaults(t, "", api.ErrSyntax, "§p.", "p §:- q.", "§X.", ":- §p.", ":- §X.", ":- §interface.", ":- §module.", ":- §module(a, b).", ":- module §X.", ":- module §1.", ":- module §\"m\".", ":- module §m(a).", ":- module §'M'.", ":- module §'a b'.", ":- module §+ .", ":- module a§, b.", ":- module §[].", ":- §end_module m.", ":- §pred p.", "m§:- module m.", "module m §:- p.", "§module m.")
	// what is no declaration
	wantFaults(t, start, api.ErrSyntax, ":- §p.", ":- §X.", ":- §1.", ":- §\"type\".", ":- p§, q.", ":- §interface(a).", ":- §implementation(a).", ":- §type.", ":- §type(a, b).", ":- §pred.", ":- §'pred'(a, b).", ":- §'mode'.", ":- §foo(a).", ":- [§a].", ":- (§:- type t).", ":- a §---> b.", ":- §p <= c(a).", ":- (§type t) <= c(a).", ":- (pred p §<= c(a)) <= c(b).", ":- §X <= c(a).", ":- §'pred' <= c(a).", ":- §'pred'(p, q) <= c(a).", ":- §end_module.")
	// names of modules
	wantFaults(t, start, api.ErrSyntax, ":- module §X.", ":- module §k(a).", ":- module a §; b.", ":- end_module §X.", ":- end_module §'M'.", ":- end_module §m(a).", ":- import_module §X.", ":- import_module a, §1.", ":- import_module a, §b(c), d.", ":- import_module §'A', 1.", ":- import_module ((a§, b), c).", ":- import_module [§a].", ":- import_module a.b, §+ .")
}

// P4.1: likewise in types, insts and modes.
func TestTypeFaults(t *testing.T) {
	wantFaults(t, start, api.ErrSyntax, ":- type §X.", ":- type §1.", ":- type §0'a.", ":- type §\"t\".", ":- type §'T'.", ":- type §a.b.", ":- type §+ .", ":- type §[].", ":- type a §; b.", ":- type t(§a).", ":- type t(A, §1, 2).", ":- type t(§list(A)).", ":- type t(§pred(A)).", ":- type t §-> a.")
	wantFaults(t, start, api.ErrSyntax, ":- type §a.b == int.", ":- type t == §1.", ":- type t == §_.", ":- type t == §'T'.", ":- type t == list(§1).", ":- type t == list(A, pred(B, §\"a\")).", ":- type t == a §:: b.", ":- type t == §[].", ":- type t == (a §== b).", ":- type t(§1) == 2.", ":- type §1 == 2.", ":- type t == f(§+).", ":- type t == a §= b.", ":- type t == u(§0'a).")
	wantFaults(t, start, api.ErrSyntax, ":- type §X ---> a.", ":- type t(§a) ---> 1.", ":- type t ---> §X.", ":- type t ---> §1.", ":- type t ---> a ; §\"b\".", ":- type t ---> §a.b.", ":- type t ---> a ; §.. .", ":- type t ---> §!.X.", ":- type t ---> a(§1).", ":- type t ---> a(int, §_) ; 1.", ":- type t ---> a(§F :: int).", ":- type t ---> a(§f(b) :: int).", ":- type t ---> a(§'F' :: int).", ":- type t ---> a(§f.g :: int).", ":- type t ---> a(§+ :: int).", ":- type t ---> a(f :: §1).", ":- type t ---> a(f :: (g §:: int)).", ":- type t ---> a(§::(b)).", ":- type t ---> a ; b(f :: int, g :: list(§2)).", ":- type t ---> (a :- b) ; (c :- §1).")
	wantFaults(t, start, api.ErrSyntax, ":- inst §i.", ":- inst i §= a.", ":- inst §i(A) == a.", ":- inst §X == a.", ":- inst §a.b == c.", ":- inst §+ == a.", ":- inst §'I' == a.", ":- inst §1 == a.", ":- inst i §---> a.")
	wantFaults(t, start, api.ErrSyntax, ":- mode i == §a.", ":- mode i == a §> b.", ":- mode §i(A) == a >> b.", ":- mode §X == a.", ":- mode §a.b == a >> b.", ":- mode §+ == a >> b.", ":- mode §\"i\" == 1.", ":- mode i == §>>(a).", ":- mode i == §>>(a, b, c).")
}

// P4.1: likewise in declarations of predicates, functions and their modes.
func TestPredicateFaults(t *testing.T) {
	wantFaults(t, start, api.ErrSyntax, ":- pred §X.", ":- pred §1.", ":- pred §\"p\".", ":- pred §a.b.", ":- pred §a.b(int).", ":- pred §.. .", ":- pred §!.X.", ":- pred p(§1).", ":- pred p(int, §_).", ":- pred p(§1::in) is 2.", ":- pred p(int::in) is §foo.", ":- pred p is §1.", ":- pred p is §X.", ":- pred p is §det(a).", ":- pred p is §'Det'.", ":- pred p is §\"det\".", ":- pred §X is det.", ":- pred §1 is 2.", ":- pred p(int::in, A::out, §\"a\"::in) is det.", ":- pred (a is §b).", ":- pred p(int::in) is (det §is det).", ":- pred p(int :: in §:: in) is det.", ":- pred p((int §:: a) :: b) is det.", ":- pred [§1].", ":- pred [int§].", ":- pred p §:- q.")
	wantFaults(t, start, api.ErrSyntax, ":- pred p(A) <= §c.", ":- pred p(A) <= §X.", ":- pred p(A) <= §1.", ":- pred p(A) <= §'C'(A).", ":- pred p(A) <= §+(A).", ":- pred p(A) <= c(§1).", ":- pred p(A) <= (c(A), §d).", ":- pred p(A) <= (c(A), d(A), e(§_)).", ":- pred p(A) <= ((c(A)§, d(A)), e(A)).", ":- pred p(A) <= [§c(A)].", ":- pred p(§1) <= d.", ":- pred p(A) <= c §<= d(A).", ":- pred p(A) <= (c(A) §; d(A)).", ":- pred p(A) <= c(A)§, d(A).", ":- pred p(A) <= §pred.", ":- pred §1 <= 2.")
	wantFaults(t, start, api.ErrSyntax, ":- func §f.", ":- func §f(int).", ":- func §f is det.", ":- func §f(int) is det.", ":- func §X.", ":- func §X = int.", ":- func §1 = int.", ":- func §a.b = int.", ":- func §a.b(int) = 1.", ":- func f = §1.", ":- func f(int) = §_.", ":- func f(§1) = 2.", ":- func f(int) = int is §foo.", ":- func f = (§1::out) is det.", ":- func f §\\= int.", ":- func f = int <= §c.", ":- func f = (int §= int).", ":- func §!.X = int.", ":- func (§=(a)).", ":- func f §:= int.")
	wantFaults(t, start, api.ErrSyntax, ":- mode §p.", ":- mode §p(in).", ":- mode f(in) §= out.", ":- mode §X.", ":- mode §X is det.", ":- mode §1 is 2.", ":- mode §a.b is det.", ":- mode §a.b(in) is det.", ":- mode p is §1.", ":- mode p(in) is §foo.", ":- mode p(in) is §X.", ":- mode §X = out is det.", ":- mode §1 = out is 2.", ":- mode §a.b(in) = out is det.", ":- mode f(in) = out is §det(a).", ":- mode p(in) §<= c(a).", ":- mode p §:: det.", ":- mode i §---> a.")
}

// P4.1: likewise in classes, instances and laws.
func TestClassFaults(t *testing.T) {
	wantFaults(t, start, api.ErrSyntax, ":- typeclass §c(A).", ":- typeclass c(A) §<= d(A).", ":- typeclass §X where [].", ":- typeclass §c where [].", ":- typeclass §1 where 2.", ":- typeclass §'C'(A) where [].", ":- typeclass §a.b(A) where [].", ":- typeclass §+(A) where [].", ":- typeclass c(§a) where [].", ":- typeclass c(A, §1) where [].", ":- typeclass c(A, §list(B)) where [].", ":- typeclass §c <= d(A) where [].", ":- typeclass c(A) <= §d where [].", ":- typeclass c(A) <= d(§1) where 2.", ":- typeclass c(A) <= (d(A), §X) where [].", ":- typeclass (c(A) §<= d(A)) <= e(A) where [].")
	wantFaults(t, start, api.ErrSyntax, ":- typeclass c(A) where §a.", ":- typeclass c(A) where §X.", ":- typeclass c(A) where §pred p.", ":- typeclass c(A) where [§p].", ":- typeclass c(A) where [§X].", ":- typeclass c(A) where [pred p | §X].", ":- typeclass c(A) where [pred p | §pred q].", ":- typeclass c(A) where [pred p, pred §X, pred 1].", ":- typeclass c(A) where [pred p(§1)].", ":- typeclass c(A) where [func §f].", ":- typeclass c(A) where [func f = A, pred p is §foo].", ":- typeclass c(A) where [pred p(A) §<= d(A)].", ":- typeclass c(A) where [pred §a.b].", ":- typeclass c(A) where [func §a.b = int].", ":- typeclass c(A) where [(§mode p is det)].", ":- typeclass c(A) where [§:- , pred p].", ":- typeclass c(A) where [§'pred'].", ":- typeclass c(A) where [§'pred'(p, q)].", ":- typeclass c(A) where [(§type t)].", ":- typeclass c(A) where [§[]].", ":- typeclass c(A) where [(pred p§, pred q)].")
	wantFaults(t, start, api.ErrSyntax, ":- instance §c.", ":- instance §X.", ":- instance §1.", ":- instance §'C'(int).", ":- instance §+(int).", ":- instance c(§1).", ":- instance c(int, §_).", ":- instance c(list(§\"a\")).", ":- instance c(int) <= §d.", ":- instance c(int) <= (d(A), §1).", ":- instance §c <= d(int).", ":- instance (where(§a, b)).", ":- instance (where(a(x), §b)).", ":- instance (where(a, b)) where §c.", ":- instance c(int) §; d.", ":- instance c(int)§, c(a).", ":- instance (c(int) §<= d(int)) <= e(int).", ":- instance c(§1) <= 2 where 3.", ":- instance c(int) <= §2 where 3.", ":- instance c(int) §:- p.")
	wantFaults(t, start, api.ErrSyntax, ":- instance c(int) where §a.", ":- instance c(int) where §X.", ":- instance c(int) where pred(m / 1) §is p.", ":- instance c(int) where [§p].", ":- instance c(int) where [§pred(m/1)].", ":- instance c(int) where [m§/1 is p].", ":- instance c(int) where [pred(§m) is p].", ":- instance c(int) where [§pred is p].", ":- instance c(int) where [§'pred'(m, 1) is p].", ":- instance c(int) where [§type(m/1) is p].", ":- instance c(int) where [pred(§X/1) is p].", ":- instance c(int) where [pred(§m(a)/1) is p].", ":- instance c(int) where [pred(§a.b/1) is p].", ":- instance c(int) where [pred(§1/1) is p].", ":- instance c(int) where [pred(m/§n) is p].", ":- instance c(int) where [pred(m/§X) is p].", ":- instance c(int) where [pred(m/ §-1) is p].", ":- instance c(int) where [pred(m/§0'1) is p].", ":- instance c(int) where [pred(m§-1) is p].", ":- instance c(int) where [pred(m/1) is §X].", ":- instance c(int) where [pred(m/1) is §1].", ":- instance c(int) where [pred(m/1) is §p(a)].", ":- instance c(int) where [pred(m/1) is §a.b].", ":- instance c(int) where [func(m/1) is p, pred(§k) is 1].", ":- instance c(int) where [func(m/1) is p | §q].", ":- instance c(int) where [pred(m/1) §= p].")
	wantFaults(t, start, api.ErrSyntax, ":- promise §p.", ":- promise §X.", ":- promise §foo(p).", ":- promise §assoc.", ":- promise §assoc(p, q).", ":- promise assoc(§X).", ":- promise assoc(§1).", ":- promise assoc(§p(a)).", ":- promise commut(§a.b).", ":- promise commut(§\"p\").", ":- promise assoc(p)§, commut(p).")
}

// P4.1: items that may not stand where they do, and ends of other modules.
func TestOrderFaults(t *testing.T) {
	all := []string{"p", ":- module k", ":- import_module a", ":- type t", ":- inst i == a", ":- mode i == a >> b", ":- pred p", ":- func f = a", ":- mode p is det", ":- typeclass c(A) where []", ":- instance c(a)", ":- promise assoc(p)"}
	for _, x := range all {
		wantFaults(t, ":- module m. ", api.ErrOrder, "§"+x+".", "§"+x+". :- interface.")
		wantFaults(t, start+":- module k. ", api.ErrOrder, "§"+x+". :- end_module k.")
	}
	for _, x := range append(all, ":- interface", ":- implementation", ":- end_module m", ":- end_module n", ":- module m") {
		wantFaults(t, start+":- end_module m. ", api.ErrOrder, "§"+x+".")
		wantFaults(t, ":- module m. :- end_module m. ", api.ErrOrder, "§"+x+". p.")
	}
	wantFaults(t, "", api.ErrOrder, ":- module m. p§:- q.", start+":- end_module m. p§:- q.")
	wantFaults(t, "", api.ErrName, ":- module m. §:- end_module n.", start+"§:- end_module k.", ":- module a.b. §:- end_module b.", ":- module b. §:- end_module a.b.", start+":- module k. :- implementation. §:- end_module m.", start+":- module k. :- end_module k. §:- end_module k.", start+":- module k. §:- end_module l. :- end_module m.")
	wantFaults(t, "", api.ErrEmpty, "", " % c\n", start+":- module k.", start+":- module k. :- implementation. p.", start+":- module k. :- implementation. :- module l. :- end_module l.", ":- module m. :- interface. p. :- module m.")
}

// P4.1: what stands twice, is missing, or does not fit.
func TestOtherFaults(t *testing.T) {
	wantFaults(t, start, api.ErrTwice, ":- type t(A, §A).", ":- type t(A, B, §B, A).", ":- type t(A, B, C, §A, B) == int.", ":- type t(A, §A) ---> a.", ":- type t(_, §_).", ":- typeclass c(A, §A) where [].", ":- typeclass c(A, B, §A) <= d(A) where [pred p].")
	wantFaults(t, start, api.ErrTwice, ":- type t ---> a(f :: int, §f :: int).", ":- type t ---> a(f :: int) ; b(int, g :: int) ; c(§g :: int, f :: int).", ":- type t(A) ---> a(x :: A, A, y :: A, §'x' :: A).")
	wantFaults(t, start, api.ErrNone, "§:- mode p is det.", ":- pred p(a). §:- mode p is det.", ":- pred p(a). §:- mode p(in, in) is det.", ":- pred p(a, b). §:- mode p(in) = out is det.", ":- func p(a) = b. §:- mode p(in, out) is det.", ":- func p(a) = b. §:- mode p = out is det.", ":- pred q. §:- mode p is det. :- pred p.", ":- module k. :- implementation. :- pred p. :- end_module k. §:- mode p is det.", ":- pred p. :- module k. :- implementation. §:- mode p is det.", ":- typeclass c(A) where [pred p]. §:- mode p is det.", "p. §:- mode p is det.")
	wantFaults(t, start, api.ErrMode, "§:- pred p(int::in).", "§:- pred p(int::in, int) is det.", "§:- pred p(int, A::in) is det.", "§:- pred p(int, A::in).", "§:- pred p(int) is det.", "§:- pred p(int, A) is det <= c(A).", "§:- pred p(int::in) <= c(int).", "§:- func f = int is det.", "§:- func f(int) = int is semidet.", "§:- func f(int::in) = int.", "§:- func f(int) = (int::out).", "§:- func f(int::in, int) = (int::out) is det.", "§:- func f(int) = (int::out) is det <= c(A).")
	wantFaults(t, start, api.ErrMode, ":- pred p(a::in) is det. §:- mode p(in) is det.", ":- pred p is det. §:- mode p is det.", ":- func f = (a::out). §:- mode f = out is det.", ":- pred p(a). :- pred p(b::in) is det. §:- mode p(in) is det.", ":- pred p(a). :- mode p(in) is det. :- pred p(a::in) is det. §:- mode p(in) is det.")
	wantFaults(t, start, api.ErrMode, "§:- typeclass c(A) where [pred p(A::in)].", "§:- typeclass c(A) where [pred p(A), pred p(A) is det, pred q].", "§:- typeclass c(A) where [func f(A) = A is det].", "§:- typeclass c(A) where [func f = A, func f(A::in) = A].")
}

// P4.1: where several faults apply to an item, the order in which they are asked; and the first item with one.
func TestFaultOrder(t *testing.T) {
	for _, x := range []struct {
		text string
		want api.Errno
	}{
		{":- module m. :- type t ---> §1.", api.ErrSyntax}, {":- module m. :- §foo.", api.ErrSyntax}, {":- module m. :- end_module m. :- type §1.", api.ErrSyntax}, {":- module m. :- module §X.", api.ErrSyntax}, {":- module m. :- end_module §X.", api.ErrSyntax},
		{start + ":- type t(A, A) ---> §1.", api.ErrSyntax}, {start + ":- type t ---> a(f :: b, f :: c) ; §1.", api.ErrSyntax}, {start + ":- mode p(in) is §foo.", api.ErrSyntax}, {start + ":- pred p(int) is §foo.", api.ErrSyntax}, {start + ":- pred p(int) is det <= §c.", api.ErrSyntax}, {start + ":- typeclass c(A, A) where [pred p(A) is det, pred §1].", api.ErrSyntax}, {start + ":- func f(int::in) = §1.", api.ErrSyntax},
		{":- module m. §:- type t(A, A).", api.ErrOrder}, {":- module m. §:- mode p is det.", api.ErrOrder}, {":- module m. §:- pred p(int) is det.", api.ErrOrder}, {":- module m. :- end_module m. §:- end_module n.", api.ErrOrder}, {":- module m. §:- typeclass c(A, A) where [].", api.ErrOrder},
		{start + ":- type t(A, §A) ---> a(f :: b, f :: c).", api.ErrTwice}, {start + ":- typeclass c(A, §A) where [pred p(A) is det].", api.ErrTwice},
		{start + "§:- mode p is det. :- mode q is det.", api.ErrNone}, {start + "§:- pred p(a) is det. :- foo.", api.ErrMode}, {start + "p. :- pred q. §:- mode r is det. :- end_module n. :- type 1.", api.ErrNone}, {":- module m. :- implementation. §:- end_module n. :- module k.", api.ErrName}, {start + ":- module k. :- implementation. :- type t(A, §A).", api.ErrTwice},
	} {
		wantFaults(t, "", x.want, x.text)
	}
}

// P4.1: the terms are checked before the items, in order.
func TestTermFaults(t *testing.T) {
	wrong := api.Term{Kind: api.TVar, Name: "x", At: 7}
	deep := api.Term{Kind: api.TApp, Name: "a", At: 9}
	for range api.MaxNest {
		deep = api.Term{Kind: api.TApp, Name: "f", At: 9, Args: []api.Term{deep}}
	}
	inside := api.Term{Kind: api.TApp, Name: "f", At: 5, Args: []api.Term{wrong}}
	for i, x := range []struct {
		list []api.Term
		want api.Fault
	}{
		{[]api.Term{wrong}, api.Fault{At: 7, Code: api.ErrForm}}, {[]api.Term{inside}, api.Fault{At: 5, Code: api.ErrForm}}, {[]api.Term{str("a"), num(1), deep, wrong}, api.Fault{At: 9, Code: api.ErrLimit}}, {[]api.Term{wrong, deep}, api.Fault{At: 7, Code: api.ErrForm}},
		{append(parse(t, start+":- foo."), num(api.MaxInt+1)), api.Fault{Code: api.ErrRange}}, {append(parse(t, start+":- end_module n."), api.Term{Kind: api.TLam, At: 3}), api.Fault{At: 3, Code: api.ErrKind}}, {[]api.Term{{Kind: -1, At: -5}}, api.Fault{At: -5, Code: api.ErrKind}},
		{nil, api.Fault{Code: api.ErrEmpty}}, {[]api.Term{}, api.Fault{Code: api.ErrEmpty}}, {[]api.Term{{At: 4, Kind: api.TApp, Name: "p"}}, api.Fault{At: 4, Code: api.ErrSyntax}},
	} {
		if u, f := Make(x.list); f != x.want || whole(u) != whole(Unit{}) {
			t.Errorf("%d: %v, not %v", i, f, x.want)
		}
	}
}

// P4.1: Text has the faults of terms first.
func TestTextFaults(t *testing.T) {
	wantFaults(t, "", api.ErrSyntax, "p. a §b.", start+":- foo. f(a§.")
	wantFaults(t, "", api.ErrForm, "p. §\x01")
	wantFaults(t, "", api.ErrEnd, "p. q§", ":- module m§")
	wantFaults(t, "", api.ErrLimit, strings.Repeat(" ", api.MaxSource+1), "p. §"+strings.Repeat("f(", api.MaxNest)+"a"+strings.Repeat(")", api.MaxNest)+".")
}

// joinedText puts n numbered texts one behind the other, with a text between them.
func joinedText(n int, between string, text func(i string) string) string {
	var l []string
	for i := range n {
		l = append(l, text(strconv.Itoa(i)))
	}
	return strings.Join(l, between)
}

// P4.1: at most 64 constructors and methods, and at most 32 variables, of which a head has more only as that of a call.
func TestLimits(t *testing.T) {
	ctors := func(n int) string { return joinedText(n, " ; ", func(i string) string { return "c" + i }) }
	methods := func(n int) string { return joinedText(n, ", ", func(i string) string { return "pred p" + i }) }
	variables := func(n int) string { return joinedText(n, ", ", func(i string) string { return "A" + i }) }
	for _, x := range []string{
		":- type t ---> " + ctors(64) + ".", ":- typeclass c(A) where [" + methods(64) + "].", ":- type t(" + variables(32) + ").", ":- type call(" + variables(32) + ") == int.", ":- typeclass c(" + variables(32) + ") where [].", ":- typeclass call(" + variables(32) + ") where [" + methods(64) + "].",
		// no other numbers are limited
		":- pred p <= (" + joinedText(100, ", ", func(i string) string { return "c" + i + "(a)" }) + ").", ":- instance c(a) where [" + joinedText(100, ", ", func(i string) string { return "pred(m/" + i + ") is p" }) + "].", ":- import_module " + joinedText(100, ", ", func(i string) string { return "m" + i }) + ".", ":- pred call(" + variables(33) + ").", ":- func call(" + variables(33) + ") = int.",
	} {
		if _, f := Text(start + x); f != (api.Fault{}) {
			t.Errorf("%.60s: %v", x, f)
		}
	}
	wantFaults(t, start, api.ErrLimit, "§:- type t ---> "+ctors(65)+".", "§:- typeclass c(A) where ["+methods(65)+"].", "§:- type call("+variables(33)+").", "§:- type call("+variables(33)+") ---> a.", "§:- typeclass call("+variables(33)+") where [].", ":- type t("+variables(32)+", §A).")
	// ahead of it
	wantFaults(t, start, api.ErrSyntax, ":- type t ---> "+ctors(65)+" ; §1.", ":- type call("+variables(32)+", §a).", ":- typeclass c(A) where ["+methods(65)+", §q].")
	wantFaults(t, ":- module m. ", api.ErrOrder, "§:- type t ---> "+ctors(65)+".")
	wantFaults(t, start, api.ErrTwice, ":- type t(A, §A) ---> "+ctors(65)+".", ":- type t ---> a(f :: b, §f :: b) ; "+ctors(65)+".", ":- type call("+variables(32)+", §A5).")
	wantFaults(t, start, api.ErrMode, "§:- typeclass c(A) where ["+methods(65)+", pred p(A) is det].")
}

// P4.1: modules nested deeper than calls could be, and long lists.
func TestLarge(t *testing.T) {
	const n = 20000
	var l []api.Term
	for range n {
		l = append(l, app(":-", app("module", app("m"))), app(":-", app("interface")))
	}
	if _, f := Make(l); f != (api.Fault{Code: api.ErrEmpty}) {
		t.Error(f)
	}
	l = append(l, slices.Repeat([]api.Term{app(":-", app("end_module", app("m")))}, n)...)
	u, f := Make(l)
	// The innermost interface has nothing in it.
	if again, e := Terms(u); f != (api.Fault{}) || e != api.OK || len(again) != len(l)-1 {
		t.Error(f, e, len(again))
	}
	depth := 0
	for k := u; len(k.Kids) == 1; k = k.Kids[0] {
		depth++
	}
	long := app("[]")
	for range 200000 {
		long = app("[|]", num(1), long)
	}
	v, f := Make(append(parse(t, start), long, app(":-", app("inst", app("==", app("i"), long)))))
	if depth != n-1 || f != (api.Fault{}) || len(v.Clauses) != 1 || !terms.Same(v.Clauses[0], long) {
		t.Error(depth, f)
	}
	if l, e := Terms(v); e != api.OK || len(l) != 5 {
		t.Error(e, len(l))
	}
	y := ycon("t")
	for range 50000 {
		y = ycon("t", y)
	}
	deep, e := TypeTerm(y)
	if z, f := Type(deep); e != api.OK || f != api.OK || !sameType(y, z) {
		t.Error(e, f)
	}
}
