package items

import (
	"slices"
	"strings"
	"testing"

	"cinnabar/api"
)

// What stands in front of declarations.
const start = ":- module m. :- implementation. "

// P4.1: what each declaration becomes, in each of its forms.
func TestDeclarations(t *testing.T) {
	for _, x := range []struct{ text, want string }{
		// uses
		{":- import_module a.", "use a\n"}, {":- import_module a, b.c, d.e.f.", "use a\nuse b.c\nuse d.e.f\n"}, {":- import_module (a, b).", "use a\nuse b\n"}, {":- import_module a. :- import_module a.", "use a\nuse a\n"},
		// types
		{":- type t.", "type t [] 2  \n"}, {":- type t(A).", "type t [A] 2  \n"}, {":- type t(A, _b1).", "type t [A _b1] 2  \n"}, {":- type pred.", "type pred [] 2  \n"}, {":- type t(_).", "type t [_] 2  \n"},
		{":- type t == int.", "type t [] 1  int\n"}, {":- type t(A, B) == q.u(A, list(B), pred(A, B)).", "type t [A B] 1  q.u(A, list(B), closure(A, B))\n"}, {":- type t == pred.", "type t [] 1  closure\n"}, {":- type t == a.b.c.", "type t [] 1  a.b.c\n"}, {":- type t == X.", "type t [] 1  X\n"},
		{":- type t ---> a.", "type t [] 0 a/0 \n"}, {":- type t(A) ---> c(f :: int, A) ; d.", "type t [A] 0 c/2 f:int :A | d/0 \n"}, {":- type t ---> a ; b(x :: u(int), y :: pred(A)) ; 'C d' ; + ; c(int).", "type t [] 0 a/0 | b/2 x:u(int) y:closure(A) | C d/0 | +/0 | c/1 :int \n"},
		{":- type t ---> a + b.", "type t [] 0 +/2 :a :b \n"}, {":- type t ---> {int} ; [] ; [int | t] ; (a, b) ; ','.", "type t [] 0 {}/1 :int | []/0 | [|]/2 :int :t | ,/2 :a :b | ,/0 \n"}, {":- type t ---> !X ; P(int).", "type t [] 0 !/1 :X | call/2 :P :int \n"},
		{":- type t ---> a ; a ; b(int) ; b(int).", "type t [] 0 a/0 | a/0 | b/1 :int | b/1 :int \n"}, {":- type t ---> (a ; b) ; (c ; d ; e).", "type t [] 0 ;/2 :a :b | c/0 | d/0 | e/0 \n"}, {":- type t ---> a :: b.", "type t [] 0 ::/2 :a :b \n"}, {":- type t ---> ;(a).", "type t [] 0 ;/1 :a \n"}, {":- type t ---> (a ---> b).", "type t [] 0 --->/2 :a :b \n"}, {":- type t ---> ::(a).", "type t [] 0 ::/1 :a \n"},
		// insts and modes
		{":- inst i == ground.", "inst i ground\n"}, {":- inst i == bound((c(ground, i) ; d)).", "inst i bound((c(ground, i) ; d))\n"}, {":- inst i == X.", "inst i X\n"}, {":- inst i == 1 - \"a\".", "inst i 1 - \"a\"\n"},
		{":- mode i == free >> ground.", "mode i free ground\n"}, {":- mode i == (in(a) >> b >> c).", "mode i in(a) >> b c\n"}, {":- mode i == 1 >> X.", "mode i 1 X\n"},
		// predicates
		{":- pred p.", "pred p {}\n"}, {":- pred p is det.", "pred p {} (det)\n"}, {":- pred p is failure.", "pred p {} (failure)\n"}, {":- pred p(int).", "pred p int {}\n"}, {":- pred p(int, list(A), pred(A)).", "pred p int list(A) closure(A) {}\n"},
		{":- pred p(int::in) is semidet.", "pred p int {} (in semidet)\n"}, {":- pred p(int::in, A::out(list(ground))) is multi.", "pred p int A {} (in out(list(ground)) multi)\n"}, {":- pred p(int::1, q.t:: (X, a)) is cc_nondet.", "pred p int q.t {} (1 (X, a) cc_nondet)\n"},
		{":- pred p(A) <= c(A).", "pred p A {c(A)}\n"}, {":- pred p(A) <= (c(A), q.d(A, int), e(list(B))).", "pred p A {c(A), q.d(A, int), e(list(B))}\n"}, {":- pred p(int::in, A::out) is nondet <= c(A).", "pred p int A {c(A)} (in out nondet)\n"}, {":- pred p is erroneous <= c(int).", "pred p {c(int)} (erroneous)\n"}, {":- pred p <= c(int).", "pred p {c(int)}\n"},
		{":- pred + .", "pred + {}\n"}, {":- pred int + int.", "pred + int int {}\n"}, {":- pred 'A b'(int).", "pred A b int {}\n"}, {":- pred (int = A).", "pred = int A {}\n"}, {":- pred (int::in) = (A::in) is det.", "pred = int A {} (in in det)\n"}, {":- pred ((int::in) is (int::out)) is det.", "pred is int int {} (in out det)\n"}, {":- pred (a <= b).", "pred <= a b {}\n"}, {":- pred (a <= b) <= c(d).", "pred <= a b {c(d)}\n"}, {":- pred P(int).", "pred call P int {}\n"}, {":- pred {int}.", "pred {} int {}\n"},
		// functions
		{":- func f = int.", "func f int {}\n"}, {":- func f(int, A) = list(A).", "func f int A list(A) {}\n"}, {":- func f = (int::out).", "func f int {} (out det)\n"}, {":- func f = (int::out) is semidet.", "func f int {} (out semidet)\n"}, {":- func f(int::in) = (A::out).", "func f int A {} (in out det)\n"}, {":- func f(int::in) = A::out is multi <= c(A).", "func f int A {c(A)} (in out multi)\n"}, {":- func f(A) = A <= (c(A), d(A)).", "func f A A {c(A), d(A)}\n"}, {":- func f(A::in) = A::out <= c(A).", "func f A A {c(A)} (in out det)\n"},
		{":- func int + int = int.", "func + int int int {}\n"}, {":- func (a = b) = c.", "func = a b c {}\n"}, {":- func (a is b) = c.", "func is a b c {}\n"}, {":- func - int = int.", "func - int int {}\n"}, {":- func 'A' = int.", "func A int {}\n"},
		// classes
		{":- typeclass c(A) where [].", "class c [A] {}\n"}, {":- typeclass c(A, B) where [pred p(A), func f(B) = A].", "class c [A B] {}\n method pred p A {} false\n method func f B A {} false\n"}, {":- typeclass c(A) <= d(A) where [pred p(A::in, int::out) is det].", "class c [A] {d(A)}\n method pred p A int {} (in out det) false\n"}, {":- typeclass c(A) <= (d(A), e.f(A, int)) where [pred p is multi, func f = (A::out), pred + , pred '-'(A)].", "class c [A] {d(A), e.f(A, int)}\n method pred p {} (multi) false\n method func f A {} (out det) false\n method pred + {} false\n method pred - A {} false\n"},
		{":- typeclass (where(A, B)) where [].", "class where [A B] {}\n"}, {":- typeclass c(A) where [pred p(A), pred p(A)].", "class c [A] {}\n method pred p A {} false\n method pred p A {} false\n"},
		// instances
		{":- instance c(int).", "instance {c(int)} {} \n"}, {":- instance c(int) where [].", "instance {c(int)} {} \n"}, {":- instance q.c(list(A), pred(A)) where [pred(m/2) is p].", "instance {q.c(list(A), closure(A))} {} pred m/2 p\n"}, {":- instance c(list(A)) <= c(A) where [pred(m/2) is p, func(f/0) is g].", "instance {c(list(A))} {c(A)} pred m/2 p; func f/0 g\n"}, {":- instance c(t(A, B)) <= (c(A), q.d(B)) where [].", "instance {c(t(A, B))} {c(A), q.d(B)} \n"}, {":- instance c(t(A)) <= c(A).", "instance {c(t(A))} {c(A)} \n"},
		{":- instance c(int) where [pred((+)/2) is 'a b', func('a/1 b'/007) is - , pred(m/0) is m].", "instance {c(int)} {} pred +/2 a b; func a/1 b/7 -; pred m/0 m\n"}, {":- instance (where(a, b)) where [].", "instance {where(a, b)} {} \n"}, {":- instance (where(a)).", "instance {where(a)} {} \n"}, {":- instance (where(a, b)) <= c(d).", "instance {where(a, b)} {c(d)} \n"},
		// laws and clauses
		{":- promise assoc(p).", "law 0 p\n"}, {":- promise commut(p).", "law 1 p\n"}, {":- promise assoc(++). :- promise commut('a b').", "law 0 ++\nlaw 1 a b\n"},
		{"p. p(X) :- q. X. 1. s --> t. module a. pred p. f(X) = Y. :-(a, b).", "clause p\nclause (p(X) :- q)\nclause X\nclause 1\nclause (s --> t)\nclause (module a)\nclause pred p\nclause f(X) = Y\nclause (a :- b)\n"},
	} {
		u, f := Text(start + x.text)
		if f != (api.Fault{}) || lines(u) != x.want || u.Module.Name != "m" {
			t.Errorf("%s: %q %v, not %q", x.text, lines(u), f, x.want)
		}
	}
}

// P4.1: to which declaration a mode belongs.
func TestModes(t *testing.T) {
	for _, x := range []struct{ text, want string }{
		{":- pred p(int). :- mode p(in) is det.", "pred p int {} (in det)\n"}, {":- pred p(int). :- mode p(in) is det. q. :- mode p(out(X)) is multi.", "pred p int {} (in det) (out(X) multi)\nclause q\n"}, {":- pred p. :- mode p is det. :- mode p is det.", "pred p {} (det) (det)\n"},
		{":- func f(int) = int. :- mode f(in) = out is det. :- mode f(out) = in is nondet.", "func f int int {} (in out det) (out in nondet)\n"}, {":- func f = int. :- mode f = out is cc_multi.", "func f int {} (out cc_multi)\n"},
		// the number of arguments, and of what kind it is
		{":- pred p. :- pred p(a). :- pred p(a, b). :- mode p(in) is det.", "pred p {}\npred p a {} (in det)\npred p a b {}\n"}, {":- pred p(a, b). :- func p(a) = b. :- mode p(x) = y is det. :- mode p(z, w) is multi.", "pred p a b {} (z w multi)\nfunc p a b {} (x y det)\n"},
		// of several the last one, whatever follows
		{":- pred p(a). :- pred p(b). :- mode p(in) is det.", "pred p a {}\npred p b {} (in det)\n"}, {":- pred p(a). :- mode p(in) is det. :- pred p(b). :- mode p(out) is multi.", "pred p a {} (in det)\npred p b {} (out multi)\n"}, {":- pred p(a::in) is det. :- pred p(b). :- mode p(out) is multi.", "pred p a {} (in det)\npred p b {} (out multi)\n"},
		{":- func f = a. :- func f = b. :- func f(c) = d. :- mode f = out is det.", "func f a {}\nfunc f b {} (out det)\nfunc f c d {}\n"},
		// other names
		{":- pred int + int. :- mode a + b is det.", "pred + int int {} (a b det)\n"}, {":- func int + int = int. :- mode a + b = c is det.", "func + int int int {} (a b c det)\n"}, {":- func (a = b) = c. :- mode (x = y) = z is det.", "func = a b c {} (x y z det)\n"}, {":- pred (a == b). :- mode (x == y) is det.", "pred == a b {} (x y det)\n"}, {":- pred P(a). :- mode P(b) is det.", "pred call P a {} (P b det)\n"},
		// each section and each module of its own
		{":- pred p(a). :- interface. :- mode p(in) is det.", "pred p a {} (in det)\n"}, {":- pred p(a). :- module k. :- implementation. :- pred p(b). :- mode p(in) is det. :- end_module k. :- mode p(out) is multi.", "pred p a {} (out multi)\nmodule k\npred p b {} (in det)\nend\n"},
	} {
		u, f := Text(start + x.text)
		if f != (api.Fault{}) || lines(u) != x.want {
			t.Errorf("%s: %q %v, not %q", x.text, lines(u), f, x.want)
		}
	}
}

// P4.1: sections, the ends of modules, and modules in modules.
func TestSections(t *testing.T) {
	for _, x := range []struct{ text, want string }{
		{":- module m.", "module m\nend\n"}, {":- module m. :- end_module m.", "module m\nend\n"}, {":- module m. :- interface.", "module m\nend\n"}, {":- module a.b.c. :- implementation. :- end_module a.b.c.", "module a.b.c\nend\n"}, {":- module module. :- end_module module.", "module module\nend\n"},
		{":- module m. :- interface. :- type t. :- implementation. :- type u. :- interface. :- type v. :- implementation. :- type w. :- end_module m.", "module m\n+type t [] 2  \n+type v [] 2  \ntype u [] 2  \ntype w [] 2  \nend\n"},
		{":- module m. :- implementation. :- interface. :- interface. p.", "module m\nclause p\nend\n"},
		{":- module m. :- interface. :- import_module a, b. :- type t. :- inst i == a. :- mode i == a >> b. :- pred p. :- mode p is det. :- func f = a. :- typeclass c(A) where [pred p(A)]. :- instance c(a). :- promise assoc(p). p.", "module m\n+use a\n+use b\n+type t [] 2  \n+inst i a\n+mode i a b\n+pred p {} (det)\n+func f a {}\n+class c [A] {}\n+ method pred p A {} true\n+instance {c(a)} {} \nlaw 0 p\nclause p\nend\n"},
		// modules in modules
		{":- module m. :- implementation. :- module k. :- end_module k.", "module m\nmodule k\nend\nend\n"}, {":- module m. :- interface. :- module k. :- end_module k.", "module m\nmodule k +\nend\nend\n"},
		{":- module m. :- interface. :- type a. :- module k. :- implementation. :- type b. p. :- interface. :- type c. :- end_module k. :- type d. q. :- end_module m.", "module m\n+type a [] 2  \n+type d [] 2  \nmodule k +\n+type c [] 2  \ntype b [] 2  \nclause p\nend\nclause q\nend\n"},
		{":- module m. :- implementation. :- module a.k. :- interface. :- module m. :- implementation. p. :- end_module m. q. :- end_module a.k. r. :- module a.k. :- end_module a.k.", "module m\nmodule a.k\nmodule m +\nclause p\nend\nclause q\nend\nmodule a.k\nend\nclause r\nend\n"},
		{":- module m. :- implementation. :- module a. :- end_module a. :- interface. :- module b. :- end_module b. :- module c. :- end_module c. :- implementation. :- module d. :- end_module d.", "module m\nmodule b +\nend\nmodule c +\nend\nmodule a\nend\nmodule d\nend\nend\n"},
	} {
		u, f := Text(x.text)
		if f != (api.Fault{}) || whole(u) != x.want {
			t.Errorf("%s: %q %v, not %q", x.text, whole(u), f, x.want)
		}
	}
}

// P4.1: the order of what a module has is that of its items, public or not.
func TestOrder(t *testing.T) {
	u := unitOf(t, ":- module m. :- implementation. :- type a. :- interface. :- type b. :- implementation. :- type c. :- module x. :- end_module x. :- interface. :- module y. :- end_module y.")
	var names []string
	for _, x := range u.Module.Types {
		names = append(names, x.Name)
	}
	for _, k := range u.Kids {
		names = append(names, k.Module.Name)
	}
	if !slices.Equal(names, []string{"a", "b", "c", "x", "y"}) {
		t.Error(names)
	}
}

// P4.1: the places of what is made, and of the terms in it.
func TestPlaces(t *testing.T) {
	const text = " :- module m. :- interface. :- import_module aa, b.c. :- type t ---> c(f :: int). :- inst i == ia(ib). :- mode j == (mf >> mt). :- pred p(int :: pin) is det. :- func g(int) = int. :- mode g(gin) = gout is det. :- typeclass k(A) where [pred v(A :: vin) is det, func w(A) = A]. :- instance k(int). :- promise assoc(p). :- module n. :- end_module n. p(X) :- q(X). r."
	u := unitOf(t, text)
	m := u.Module
	at := func(s string) int { return strings.Index(text, s) }
	for _, x := range []struct {
		what     string
		got, had int
	}{
		{"module", m.At, at(":- module m")}, {"use", m.Uses[0].At, at("aa")}, {"use", m.Uses[1].At, at("b.c")}, {"type", m.Types[0].At, at(":- type ")}, {"inst", m.Insts[0].At, at(":- inst ")}, {"mode", m.Modes[0].At, at(":- mode j")},
		{"pred", m.Decls[0].At, at(":- pred p")}, {"func", m.Decls[1].At, at(":- func g")}, {"class", m.Classes[0].At, at(":- typeclass")}, {"method", m.Classes[0].Methods[0].At, at("pred v")}, {"method", m.Classes[0].Methods[1].At, at("func w")}, {"instance", m.Instances[0].At, at(":- instance")},
		{"law", m.Laws[0].At, at(":- promise")}, {"kid", u.Kids[0].Module.At, at(":- module n")}, {"clause", u.Clauses[0].At, at(":- q")}, {"clause", u.Clauses[1].At, at("r.")}, {"goal", u.Clauses[0].Args[1].At, at("q(X)")}, {"variable", u.Clauses[0].Args[0].Args[0].At, at("X")},
		{"inst", m.Insts[0].Body.At, at("ia")}, {"inst", m.Insts[0].Body.Args[0].At, at("ib")}, {"from", m.Modes[0].From.At, at("mf")}, {"to", m.Modes[0].To.At, at("mt")}, {"own mode", m.Decls[0].Modes[0].Args[0].At, at("pin")}, {"mode", m.Decls[1].Modes[0].Args[0].At, at("gin")}, {"mode", m.Decls[1].Modes[0].Args[1].At, at("gout")}, {"mode", m.Classes[0].Methods[0].Modes[0].Args[0].At, at("vin")},
	} {
		if x.got != x.had {
			t.Errorf("%s: %d, not %d", x.what, x.got, x.had)
		}
	}
}
