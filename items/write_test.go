package items

import (
	"strings"
	"testing"

	"cinnabar/api"
	"cinnabar/pretty"
)

// written returns the text of the items of a module.
func written(u Unit) (string, api.Errno) {
	l, e := Terms(u)
	if e != api.OK {
		return "", e
	}
	return pretty.Items(l)
}

// P4.2: how each declaration is written.
func TestTerms(t *testing.T) {
	for _, x := range []struct{ text, want string }{
		{":- import_module a, b.c.", ":- import_module a.\n:- import_module b.c.\n"},
		{":- type t.", ":- type t.\n"}, {":- type t(A, B) == list(pred(A, q.u(B))).", ":- type t(A, B) == list(pred(A, q.u(B))).\n"}, {":- type t(A) ---> c(f :: int, A) ; d ; 'E' ; a - b ; [].", ":- type t(A) ---> c(f :: int, A) ; d ; 'E' ; a - b ; [].\n"}, {":- type t ---> (a ; b) ; c.", ":- type t ---> (a ; b) ; c.\n"},
		{":- inst i == bound((c(ground) ; d)).", ":- inst i == bound((c(ground) ; d)).\n"}, {":- mode i == (a >> b >> c).", ":- mode i == a >> b >> c.\n"}, {":- mode i == (a >> (b >> c)).", ":- mode i == a >> (b >> c).\n"},
		{":- pred p.", ":- pred p.\n"}, {":- pred p is det.", ":- pred p is det.\n"}, {":- pred p. :- mode p is det.", ":- pred p is det.\n"}, {":- pred p. :- mode p is det. :- mode p is failure.", ":- pred p.\n:- mode p is det.\n:- mode p is failure.\n"},
		{":- pred p(int, A).", ":- pred p(int, A).\n"}, {":- pred p(int :: in, A :: (X, b)) is multi.", ":- pred p(int :: in, A :: (X, b)) is multi.\n"}, {":- pred p(int). :- mode p(in) is semidet.", ":- pred p(int :: in) is semidet.\n"}, {":- pred p(int). :- mode p(in) is semidet. q. :- mode p(out) is nondet.", ":- pred p(int).\n:- mode p(in) is semidet.\n:- mode p(out) is nondet.\nq.\n"},
		{":- func f = int.", ":- func f = int.\n"}, {":- func f(int) = A.", ":- func f(int) = A.\n"}, {":- func f(int::in) = (A::out).", ":- func f(int :: in) = A :: out is det.\n"}, {":- func f = int. :- mode f = out is erroneous.", ":- func f = int :: out is erroneous.\n"}, {":- func f = int. :- mode f = out is cc_multi. :- mode f = in is cc_nondet.", ":- func f = int.\n:- mode f = out is cc_multi.\n:- mode f = in is cc_nondet.\n"},
		{":- pred p(A) <= c(A).", ":- pred p(A) <= c(A).\n"}, {":- pred p(A::in) is det <= (c(A), q.d(A, int)).", ":- pred p(A :: in) is det <= (c(A), q.d(A, int)).\n"}, {":- func f(A) = A <= c(A). :- mode f(a) = b is det. :- mode f(c) = d is det.", ":- func f(A) = A <= c(A).\n:- mode f(a) = b is det.\n:- mode f(c) = d is det.\n"},
		{":- pred p(a). :- pred p(b). :- mode p(c) is det. :- mode p(d) is det. :- pred p(e).", ":- pred p(a).\n:- pred p(b).\n:- mode p(c) is det.\n:- mode p(d) is det.\n:- pred p(e).\n"},
		{":- typeclass c(A) where [].", ":- typeclass c(A) where [].\n"}, {":- typeclass c(A, B) <= (d(A), e(B)) where [pred p(A::in) is det, func f(A) = B, pred q(B), func g(A::in) = (B::out)].", ":- typeclass c(A, B) <= (d(A), e(B)) where [pred p(A :: in) is det, func f(A) = B, pred q(B), func g(A :: in) = B :: out is det].\n"},
		{":- instance c(int).", ":- instance c(int).\n"}, {":- instance c(int) where [].", ":- instance c(int).\n"}, {":- instance c(t(A)) <= (c(A), d(A)) where [pred(m/2) is p, func((+)/1) is 'a b'].", ":- instance c(t(A)) <= (c(A), d(A)) where [(pred m / 2) is p, (func (+) / 1) is 'a b'].\n"}, {":- instance c(t(A)) <= c(A) where [].", ":- instance c(t(A)) <= c(A).\n"}, {":- instance q.c(t) where [func(m/0) is p].", ":- instance q.c(t) where [(func m / 0) is p].\n"},
		{":- instance (where(a, b)) where [].", ":- instance (a where b) where [].\n"}, {":- instance (where(a)) where [].", ":- instance(where(a)).\n"}, {":- instance (where(a, b, c)).", ":- instance(where(a, b, c)).\n"}, {":- instance (where(a, b)) <= c(d) where [].", ":- instance (a where b) <= c(d).\n"},
		{":- promise commut(q). :- promise assoc(+).", ":- promise commut(q).\n:- promise assoc(+).\n"}, {"p. s --> t. X. p(X) :- q.", "p.\ns -->\n    t.\nX.\np(X) :-\n    q.\n"},
		// each kind behind the one before, whatever the order was
		{"p. :- module k. :- end_module k. :- promise assoc(p). :- instance c(a). :- typeclass c(A) where []. :- pred p. :- mode i == a >> b. :- inst i == a. :- type t. :- import_module a.", ":- import_module a.\n:- type t.\n:- inst i == a.\n:- mode i == a >> b.\n:- pred p.\n:- typeclass c(A) where [].\n:- instance c(a).\n:- promise assoc(p).\n:- module k.\n:- end_module k.\np.\n"},
	} {
		s, e := written(unitOf(t, start+x.text))
		if want := ":- module m.\n:- implementation.\n" + x.want + ":- end_module m.\n"; e != api.OK || s != want {
			t.Errorf("%s: %s %v, not %s", x.text, s, e, want)
		}
	}
}

// P4.2: what is public stands in the interface, all others behind it, each in its order; sections with nothing in them are left out.
func TestTermsSections(t *testing.T) {
	for _, x := range []struct{ text, want string }{
		{":- module m.", ":- module m.\n:- end_module m.\n"}, {":- module a.b. :- interface. :- implementation.", ":- module a.b.\n:- end_module a.b.\n"}, {":- module m. :- interface. p.", ":- module m.\n:- implementation.\np.\n:- end_module m.\n"}, {":- module m. :- interface. :- promise assoc(p).", ":- module m.\n:- implementation.\n:- promise assoc(p).\n:- end_module m.\n"},
		{":- module m. :- implementation. :- type t. :- interface. :- type u. :- import_module a. :- implementation. :- type v. :- import_module b. :- interface. :- type w.", ":- module m.\n:- interface.\n:- import_module a.\n:- type u.\n:- type w.\n:- implementation.\n:- import_module b.\n:- type t.\n:- type v.\n:- end_module m.\n"},
		{":- module m. :- interface. :- pred p(a). :- mode p(b) is det. :- mode p(c) is det. :- implementation. :- pred p(d). :- mode p(e) is det. :- mode p(f) is det.", ":- module m.\n:- interface.\n:- pred p(a).\n:- mode p(b) is det.\n:- mode p(c) is det.\n:- implementation.\n:- pred p(d).\n:- mode p(e) is det.\n:- mode p(f) is det.\n:- end_module m.\n"},
		{":- module m. :- interface. :- typeclass c(A) where [pred p(A)]. :- instance c(a). :- inst i == a. :- mode j == a >> b.", ":- module m.\n:- interface.\n:- inst i == a.\n:- mode j == a >> b.\n:- typeclass c(A) where [pred p(A)].\n:- instance c(a).\n:- end_module m.\n"},
		{":- module m. :- implementation. :- module x. :- end_module x. :- interface. :- module y. :- interface. :- type t. q. :- end_module y. :- type u. p. :- module z. :- end_module z.", ":- module m.\n:- interface.\n:- type u.\n:- module y.\n:- interface.\n:- type t.\n:- implementation.\nq.\n:- end_module y.\n:- module z.\n:- end_module z.\n:- implementation.\n:- module x.\n:- end_module x.\np.\n:- end_module m.\n"},
	} {
		if s, e := written(unitOf(t, x.text)); e != api.OK || s != x.want {
			t.Errorf("%s: %s %v, not %s", x.text, s, e, x.want)
		}
	}
}

// A text with one of each thing that a module has.
const one = ":- module m. :- implementation. :- import_module a. :- type t(A) ---> c(f :: int, A) ; d(g :: list(A)). :- inst i == j. :- mode k == x >> y. :- pred p(int, A) <= n(A). :- mode p(in, out) is det. :- mode p(out, in) is det. :- func f(int::in) = int::out is det. :- typeclass l(A) <= n(A) where [pred q(A), func r(A::in) = int::out is det]. :- instance l(int) <= n(int) where [pred(q/1) is q, func(r/1) is r]. :- promise assoc(p). :- module o. :- implementation. :- type u == v. :- end_module o. c(X) :- d."

// wantChanged checks what Terms returns for the module of that text after a part of it was changed, one change at a time; and that what it returns without an error is read back.
func wantChanged[X any](t *testing.T, want api.Errno, part func(*Unit) *X, changes ...func(*X)) {
	t.Helper()
	for i, change := range changes {
		u := unitOf(t, one)
		change(part(&u))
		before := whole(u)
		l, e := Terms(u)
		if e != want || (e == api.OK) != (len(l) > 0) || whole(u) != before {
			t.Errorf("%d: %v, not %v: %s", i, e, want, before)
		}
		if again, f := Make(l); e == api.OK && (f.Code != api.OK || whole(again) != before) {
			t.Errorf("%d: %s %v, not %s", i, whole(again), f, before)
		}
	}
}

// Parts of a module.

func all(u *Unit) *Unit                { return u }
func aModule(u *Unit) *api.Module      { return &u.Module }
func aType(u *Unit) *api.TypeDef       { return &u.Module.Types[0] }
func aCtor(u *Unit) *api.Ctor          { return &u.Module.Types[0].Ctors[0] }
func anArgument(u *Unit) *api.Type     { return &u.Module.Types[0].Ctors[0].Args[0] }
func aPred(u *Unit) *api.Decl          { return &u.Module.Decls[0] }
func aFunc(u *Unit) *api.Decl          { return &u.Module.Decls[1] }
func aClass(u *Unit) *api.Class        { return &u.Module.Classes[0] }
func aMethod(u *Unit) *api.Decl        { return &u.Module.Classes[0].Methods[1] }
func anInstance(u *Unit) *api.Instance { return &u.Module.Instances[0] }
func aLaw(u *Unit) *api.Law            { return &u.Module.Laws[0] }
func aKid(u *Unit) *Unit               { return &u.Kids[0] }
func aClause(u *Unit) *api.Term        { return &u.Clauses[0] }

var (
	longName = strings.Repeat("a", api.MaxName+1)
	dict     = api.Type{Kind: api.YDict, Name: "l", Args: []api.Type{ycon("int")}}
	tooMuch  = num(api.MaxInt + 1)
	noKind   = api.Term{Kind: 7}
)

// P4.2: modules that are written, as Make returns them.
func TestTermsOfOthers(t *testing.T) {
	const ok = api.OK
	wantChanged(t, ok, all, func(*Unit) {}, func(u *Unit) { u.Kids, u.Clauses = nil, nil })
	wantChanged(t, ok, aModule, func(m *api.Module) { m.Name = "a.b" }, func(m *api.Module) { m.At = 7 }, func(m *api.Module) { m.Uses[0].Name = "a.b" }, func(m *api.Module) { m.Uses[0].Public = true }, func(m *api.Module) { m.Insts[0].Body = str("x") }, func(m *api.Module) { m.Insts[0].Public = true }, func(m *api.Module) { m.Modes[0].To = app(">>", app("a"), app("b")) }, func(m *api.Module) { m.Modes[0].Public = true }, func(m *api.Module) { *m = api.Module{Name: "m"} })
	wantChanged(t, ok, aType, func(x *api.TypeDef) { x.Public = true }, func(x *api.TypeDef) { x.At = 5 }, func(x *api.TypeDef) { x.Params[0] = "B" }, func(x *api.TypeDef) { x.Ctors = manyCtors(api.MaxParts) }, func(x *api.TypeDef) { x.Kind, x.Ctors = api.DAbstract, nil })
	wantChanged(t, ok, aCtor, func(x *api.Ctor) { x.Name = "a b" }, func(x *api.Ctor) { x.Name = ";" }, func(x *api.Ctor) { x.Fields[1] = "h" }, func(x *api.Ctor) { x.Fields[0] = "" })
	wantChanged(t, ok, anArgument, func(x *api.Type) { x.Args = manyTypes(api.MaxArgs) }, func(x *api.Type) { *x = ypred(ycon("a.b")) }, func(x *api.Type) { *x = ypred() }, func(x *api.Type) { *x = deepType(58) })
	wantChanged(t, ok, aPred, func(x *api.Decl) { x.Name = "+" }, func(x *api.Decl) { x.Modes[1].Args[0] = app("::", app("a"), app("b")) }, func(x *api.Decl) { x.Needs[0].Class = "a.b" }, func(x *api.Decl) { x.Func = true }, func(x *api.Decl) { x.Modes = x.Modes[:1] }, func(x *api.Decl) { x.Modes = nil }, func(x *api.Decl) { x.Needs = nil })
	wantChanged(t, ok, aFunc, func(x *api.Decl) { x.Func = false }, func(x *api.Decl) { x.Func, x.Name = false, "is" }, func(x *api.Decl) { *x = api.Decl{Name: "=", Types: manyTypes(2)} }, func(x *api.Decl) { x.Public = true }, func(x *api.Decl) { x.Types[0] = deepType(58) })
	wantChanged(t, ok, aClass, func(x *api.Class) { x.Name = "where" }, func(x *api.Class) { x.Supers = nil }, func(x *api.Class) { x.Methods = nil }, func(x *api.Class) { x.Methods = manyMethods(api.MaxParts) }, func(x *api.Class) { x.Public, x.Methods[0].Public, x.Methods[1].Public = true, true, true })
	wantChanged(t, ok, aMethod, func(x *api.Decl) { x.Modes = nil }, func(x *api.Decl) { x.Name = "a b" })
	wantChanged(t, ok, anInstance, func(x *api.Instance) { x.Class = "a.b" }, func(x *api.Instance) { x.Needs = nil }, func(x *api.Instance) { x.Impls = nil }, func(x *api.Instance) { x.Needs, x.Impls = nil, nil }, func(x *api.Instance) { x.Public = true }, func(x *api.Instance) { *x = api.Instance{Class: "where", Types: manyTypes(2)} })
	wantChanged(t, ok, aLaw, func(x *api.Law) { x.Kind = api.LCommut }, func(x *api.Law) { x.Name = "a b" })
	wantChanged(t, ok, aKid, func(u *Unit) { u.Module.Public = true }, func(u *Unit) { u.Module = api.Module{Name: "m"} })
	wantChanged(t, ok, aClause, func(x *api.Term) { *x = str("a") }, func(x *api.Term) { *x = app(":-", app("p"), app("q"), app("r")) })
}

// P4.2: modules that Make does not return.
func TestTermsForm(t *testing.T) {
	const form = api.ErrForm
	wantChanged(t, form, all, func(u *Unit) { *u = Unit{} })
	wantChanged(t, form, aModule, func(m *api.Module) { m.Name = "" }, func(m *api.Module) { m.Name = "M" }, func(m *api.Module) { m.Name = "+" }, func(m *api.Module) { m.Name = "a.B" }, func(m *api.Module) { m.Public = true }, func(m *api.Module) { m.Clauses = []api.Clause{{}} }, func(m *api.Module) { m.Kids = []api.Module{{}} })
	wantChanged(t, form, aModule, func(m *api.Module) { m.Uses[0].Name = "A" }, func(m *api.Module) { m.Uses[0].Name = "a b.c" }, func(m *api.Module) { m.Insts[0].Name = "I" }, func(m *api.Module) { m.Insts[0].Name = "a.b" }, func(m *api.Module) { m.Modes[0].Name = "+" }, func(m *api.Module) { m.Modes[0].From = api.Term{} })
	wantChanged(t, form, aType, func(x *api.TypeDef) { x.Name = "T" }, func(x *api.TypeDef) { x.Name = "a.b" }, func(x *api.TypeDef) { x.Kind = 3 }, func(x *api.TypeDef) { x.Kind = -1 }, func(x *api.TypeDef) { x.Kind = api.DAbstract }, func(x *api.TypeDef) { x.Kind = api.DSame }, func(x *api.TypeDef) { x.Same = ycon("int") }, func(x *api.TypeDef) { x.Ctors = nil }, func(x *api.TypeDef) { x.Params = []string{"A", "A"} }, func(x *api.TypeDef) { x.Params[0] = "a" }, func(x *api.TypeDef) { x.Ctors = manyCtors(api.MaxParts + 1) })
	wantChanged(t, form, aType, func(x *api.TypeDef) {
		x.Ctors[1] = api.Ctor{Name: ";", Args: manyTypes(2), Fields: []string{"", ""}}
	})
	wantChanged(t, form, aCtor, func(x *api.Ctor) { x.Name = "a.b" }, func(x *api.Ctor) { x.Fields = nil }, func(x *api.Ctor) { x.Fields = []string{"f", "", ""} }, func(x *api.Ctor) { x.Fields[1] = "g" }, func(x *api.Ctor) { x.Fields[1] = "H" }, func(x *api.Ctor) { x.Fields[1] = "a.b" }, func(x *api.Ctor) { x.Args[1].Args = manyTypes(1) })
	wantChanged(t, form, anArgument, func(x *api.Type) { *x = dict }, func(x *api.Type) { *x = api.Type{Kind: 9, Name: longName} }, func(x *api.Type) { *x = yvar("_") }, func(x *api.Type) { *x = yvar("x") }, func(x *api.Type) { *x = ycon("pred") }, func(x *api.Type) { *x = api.Type{Kind: api.YPred, Name: "p"} }, func(x *api.Type) { *x = ycon("A") })
	wantChanged(t, form, aPred, func(x *api.Decl) { x.Name = "a.b" }, func(x *api.Decl) { x.Name = "=" }, func(x *api.Decl) { x.Types = nil }, func(x *api.Decl) { x.Types[0] = dict }, func(x *api.Decl) { x.Modes[0].Args = nil }, func(x *api.Decl) { x.Modes[1].Args = append(x.Modes[1].Args, app("in")) }, func(x *api.Decl) { x.Modes[1].Det = api.Dets }, func(x *api.Decl) { x.Modes[1].Det = -1 }, func(x *api.Decl) { x.Needs[0].Types = nil }, func(x *api.Decl) { x.Needs[0].Class = "+" }, func(x *api.Decl) { x.Needs[0].Types[0] = dict })
	wantChanged(t, form, aFunc, func(x *api.Decl) { x.Types = nil }, func(x *api.Decl) { x.Types, x.Modes = nil, nil }, func(x *api.Decl) { x.Types = x.Types[:1] }, func(x *api.Decl) { x.Modes[0].Args = x.Modes[0].Args[:1] }, func(x *api.Decl) { x.Modes[0].Args = append(x.Modes[0].Args, app("in")) }, func(x *api.Decl) { x.Modes[0].Det = 8 }, func(x *api.Decl) { *x = api.Decl{Name: "is", Types: manyTypes(2)} })
	wantChanged(t, form, aClass, func(x *api.Class) { x.Name = "a.b" }, func(x *api.Class) { x.Params = nil }, func(x *api.Class) { x.Params = []string{"A", "A"} }, func(x *api.Class) { x.Params[0] = "a" }, func(x *api.Class) { x.Supers[0].Types = nil }, func(x *api.Class) { x.Public = true }, func(x *api.Class) { x.Methods = manyMethods(api.MaxParts + 1) })
	wantChanged(t, form, aMethod, func(x *api.Decl) { x.Public = true }, func(x *api.Decl) { x.Needs = []api.Need{{Class: "n", Types: manyTypes(1)}} }, func(x *api.Decl) { x.Modes = append(x.Modes, x.Modes[0]) }, func(x *api.Decl) { x.Name = "a.b" })
	wantChanged(t, form, anInstance, func(x *api.Instance) { x.Class = "L" }, func(x *api.Instance) { x.Types = nil }, func(x *api.Instance) { x.Types[0] = dict }, func(x *api.Instance) { x.Needs[0].Class = "" })
	wantChanged(t, form, aLaw, func(x *api.Law) { x.Kind = 2 }, func(x *api.Law) { x.Kind = -1 }, func(x *api.Law) { x.Name = "a.b" }, func(x *api.Law) { x.Name = "" })
	wantChanged(t, form, aKid, func(u *Unit) { u.Module.Name = "O" }, func(u *Unit) { *u = Unit{} }, func(u *Unit) { u.Module.Types[0].Same = dict }, func(u *Unit) { u.Module.Types[0].Ctors = manyCtors(1) }, func(u *Unit) { u.Module.Clauses = []api.Clause{{}} })
	wantChanged(t, form, aClause, func(x *api.Term) { *x = app(":-", app("p")) }, func(x *api.Term) { *x = app(":-", app("interface")) }, func(x *api.Term) { *x = app(":-", app("end_module", app("m"))) }, func(x *api.Term) { *x = app(":-", app("type", app("t"))) }, func(x *api.Term) { *x = variab("x") })
}

// P4.2: the errors of the items come first, in the order of these; not that of the parts of the module.
func TestTermsErrors(t *testing.T) {
	wantChanged(t, api.ErrLimit, aModule, func(m *api.Module) { m.Name = longName }, func(m *api.Module) { m.Uses[0].Name = longName }, func(m *api.Module) { m.Insts[0].Name = longName })
	wantChanged(t, api.ErrLimit, aType, func(x *api.TypeDef) { x.Name = longName }, func(x *api.TypeDef) { x.Params[0] = "A" + longName }, func(x *api.TypeDef) { x.Ctors[0].Fields[0] = longName })
	wantChanged(t, api.ErrLimit, anArgument, func(x *api.Type) { *x = yvar("X" + longName) }, func(x *api.Type) { *x = ycon(longName) }, func(x *api.Type) { x.Args = manyTypes(api.MaxArgs + 1) }, func(x *api.Type) { *x = deepType(60) })
	wantChanged(t, api.ErrLimit, aFunc, func(x *api.Decl) { x.Types[0] = deepType(59) }, func(x *api.Decl) { x.Types = manyTypes(api.MaxArgs + 2) })
	wantChanged(t, api.ErrRange, aModule, func(m *api.Module) { m.Insts[0].Body = tooMuch }, func(m *api.Module) { m.Modes[0].To = app("=", num(1), num(-api.MaxInt-1)) }, func(m *api.Module) { m.Decls[0].Modes[1].Args[0] = tooMuch }, func(m *api.Module) { m.Decls[1].Modes[0].Args[1] = tooMuch })
	wantChanged(t, api.ErrKind, aModule, func(m *api.Module) { m.Insts[0].Body = api.Term{Kind: api.TLam} })
	wantChanged(t, api.ErrKind, aClause, func(x *api.Term) { *x = noKind })
	wantChanged(t, api.ErrRange, aKid, func(u *Unit) { u.Clauses = []api.Term{tooMuch} })
	// in order
	wantChanged(t, api.ErrLimit, all, func(u *Unit) { u.Module.Types[0].Name, u.Clauses[0] = longName, noKind }, func(u *Unit) {
		u.Module.Insts[0].Body, u.Module.Decls[1].Name, u.Module.Decls[1].Public = tooMuch, longName, true
	})
	wantChanged(t, api.ErrRange, all, func(u *Unit) { u.Module.Insts[0].Body, u.Module.Laws[0].Name = tooMuch, longName }, func(u *Unit) { u.Clauses = append(u.Clauses, tooMuch, noKind) })
	wantChanged(t, api.ErrKind, all, func(u *Unit) { u.Kids[0].Clauses, u.Clauses[0] = []api.Term{noKind}, tooMuch })
	// What Make would not return comes last.
	wantChanged(t, api.ErrKind, all, func(u *Unit) { u.Module.Types[0].Kind, u.Clauses[0] = 9, noKind }, func(u *Unit) { u.Module.Public, u.Clauses[0] = true, noKind })
	wantChanged(t, api.ErrRange, all, func(u *Unit) { u.Module.Types[0].Ctors[0].Args[0], u.Clauses[0] = dict, tooMuch }, func(u *Unit) { u.Module.Uses[0].Name, u.Clauses[0] = "+", tooMuch })
}

func manyTypes(n int) []api.Type {
	var l []api.Type
	for range n {
		l = append(l, ycon("int"))
	}
	return l
}

func manyCtors(n int) []api.Ctor {
	var l []api.Ctor
	for range n {
		l = append(l, api.Ctor{Name: "c"})
	}
	return l
}

func manyMethods(n int) []api.Decl {
	var l []api.Decl
	for range n {
		l = append(l, api.Decl{Name: "p"})
	}
	return l
}

// deepType returns a type that is nested so deep.
func deepType(n int) api.Type {
	y := ycon("t")
	for range n - 1 {
		y = ycon("t", y)
	}
	return y
}

// P4.2: the texts of implementations.
func TestImplementations(t *testing.T) {
	most := strings.Repeat("b", api.MaxName)
	for _, x := range []struct {
		impl string
		want api.Errno
	}{
		{"pred m/2 p", api.OK}, {"func m/0 p", api.OK}, {"pred +/2 -", api.OK}, {"pred a b/2 c d", api.OK}, {"pred //2 //3", api.OK}, {"pred a/1 b/2 c", api.OK}, {"pred  /0  ", api.OK}, {"pred m/4611686018427387903 p", api.OK}, {"func " + most + "/1 " + most, api.OK}, {"pred A/1 B", api.OK}, {"pred []/1 []", api.OK},
		// It is divided where both names are right.
		{"pred a/1 b/2 " + most[2:], api.OK}, {"pred /1 p/2 c", api.OK}, {"pred a/1 b/2 ", api.OK}, {"pred a/1 b.c/2 d", api.ErrForm}, {"pred a/1 " + most + "/2 c", api.ErrLimit}, {"pred a/1 " + longName + "/2 b.c", api.ErrForm},
		{"", api.ErrForm}, {"pred", api.ErrForm}, {"pred ", api.ErrForm}, {"pred m", api.ErrForm}, {"pred m/2", api.ErrForm}, {"pred m/2p", api.ErrForm}, {"pred m/ p", api.ErrForm}, {"pred m /2 ", api.ErrForm}, {"pred /2 p", api.ErrForm}, {"pred m/02 p", api.ErrForm}, {"pred m/-1 p", api.ErrForm}, {"pred m/+1 p", api.ErrForm}, {"pred m/n p", api.ErrForm}, {"pred m/2\tp", api.ErrForm}, {"pred  m/2 p", api.OK}, {"type m/2 p", api.ErrForm}, {" m/2 p", api.ErrForm}, {"predm/2 p", api.ErrForm}, {"m/2 p", api.ErrForm}, {"PRED m/2 p", api.ErrForm},
		{"pred a.b/2 p", api.ErrForm}, {"pred m/2 a.b", api.ErrForm}, {"pred m/2 p\n", api.ErrForm}, {"pred m/4611686018427387904 p", api.ErrRange}, {"pred m/99999999999999999999 p", api.ErrForm}, {"pred " + longName + "/2 p", api.ErrLimit}, {"pred m/2 " + longName, api.ErrLimit}, {"pred a" + strings.Repeat("/1 ", 100000), api.ErrLimit},
	} {
		u := unitOf(t, one)
		u.Module.Instances[0].Impls[1] = x.impl
		l, e := Terms(u)
		if e != x.want {
			t.Errorf("%.60q: %v, not %v", x.impl, e, x.want)
		}
		if again, f := Make(l); e == api.OK && (f.Code != api.OK || again.Module.Instances[0].Impls[1] != x.impl) {
			t.Errorf("%.60q: %v", x.impl, f)
		}
	}
}

// P4.2: types of terms, and back.
func TestTypes(t *testing.T) {
	for _, x := range []struct {
		text string
		want api.Type
	}{
		{"A", yvar("A")}, {"_a", yvar("_a")}, {"int", ycon("int")}, {"a.b.c", ycon("a.b.c")}, {"list(A)", ycon("list", yvar("A"))}, {"m.t(A, B, list(int))", ycon("m.t", yvar("A"), yvar("B"), ycon("list", ycon("int")))}, {"pred", ypred()}, {"pred(int)", ypred(ycon("int"))}, {"pred(A, pred(B))", ypred(yvar("A"), ypred(yvar("B")))}, {"not(a, b)", ycon("not", ycon("a"), ycon("b"))}, {"P(int)", ycon("call", yvar("P"), ycon("int"))}, {"func(int)", ycon("func", ycon("int"))}, {"preds", ycon("preds")}, {"m.pred(a)", ycon("m.pred", ycon("a"))},
		{strings.Repeat("a", 40), ycon(strings.Repeat("a", 40))},
	} {
		term := parseOne(t, x.text)
		y, e := Type(term)
		if e != api.OK || !sameType(y, x.want) {
			t.Errorf("%s: %s %v", x.text, typeLine(y), e)
		}
		back, e := TypeTerm(x.want)
		if e != api.OK || !identical(back, bare(term)) {
			t.Errorf("%s: %s %v", x.text, termLine(back), e)
		}
	}
	// Only terms have limits.
	long := strings.Repeat("a", 100)
	for _, y := range []api.Type{ycon(long), yvar("A" + long), ycon("t", manyTypes(100)...), deepType(100), ypred(manyTypes(40)...)} {
		term, e := TypeTerm(y)
		again, f := Type(term)
		if e != api.OK || f != api.OK || !sameType(y, again) {
			t.Errorf("%.60s: %v %v", typeLine(y), e, f)
		}
	}
}

// P4.2: terms that are no types, and types of no term.
func TestTypeErrors(t *testing.T) {
	for i, x := range []api.Term{
		variab("_"), variab("x"), variab(""), variab("A.B"), {Kind: api.TVar, Name: "A", Num: 1}, {Kind: api.TVar, Name: "A", Args: []api.Term{app("a")}}, num(1), str("a"), {Kind: api.TChar, Num: 97}, {Kind: api.TLam}, {Kind: -1, Name: "int"}, {Kind: 77, Name: "int"},
		app(""), app("A"), app("+"), app("a b"), app("[]"), app(","), app("_"), app("1"), app("a."), app(".a"), app("a.B"), app("a..b"), {Kind: api.TApp, Name: "int", Num: 1},
		app("list", variab("_")), app("list", app("int"), num(1)), app("pred", app("+")), app("t", app("t", app("t", str("")))), app("=", app("a"), app("b")), app("::", app("a"), app("b")), app("[|]", app("a"), app("[]")), app("m.+", app("a")), app("call", variab("_")),
	} {
		if y, e := Type(x); e != api.ErrSyntax || !sameType(y, api.Type{}) {
			t.Errorf("%d: %s %v", i, typeLine(y), e)
		}
	}
	wrong := yvar("x")
	for i, x := range []struct {
		y    api.Type
		want api.Errno
	}{
		{dict, api.ErrKind}, {api.Type{Kind: api.YDict}, api.ErrKind}, {api.Type{Kind: 4}, api.ErrKind}, {api.Type{Kind: -1}, api.ErrKind}, {ycon("t", dict), api.ErrKind}, {ypred(ycon("int"), ycon("t", dict)), api.ErrKind},
		{api.Type{}, api.ErrForm}, {wrong, api.ErrForm}, {yvar("_"), api.ErrForm}, {yvar("A "), api.ErrForm}, {yvar("A.B"), api.ErrForm}, {yvar("1"), api.ErrForm}, {yvar("$1"), api.ErrForm}, {api.Type{Kind: api.YVar, Name: "A", Args: manyTypes(1)}, api.ErrForm},
		{ycon(""), api.ErrForm}, {ycon("A"), api.ErrForm}, {ycon("+"), api.ErrForm}, {ycon("a b"), api.ErrForm}, {ycon("a.+"), api.ErrForm}, {ycon("a.B"), api.ErrForm}, {ycon("a."), api.ErrForm}, {ycon("[]"), api.ErrForm}, {ycon("pred"), api.ErrForm}, {ycon("pred", ycon("int")), api.ErrForm}, {ycon("t", ycon("t", wrong)), api.ErrForm}, {api.Type{Kind: api.YPred, Name: "pred"}, api.ErrForm}, {ypred(wrong), api.ErrForm},
		// the first one in preorder
		{ycon("t", dict, wrong), api.ErrKind}, {ycon("t", wrong, dict), api.ErrForm}, {ycon("T", dict), api.ErrForm}, {ycon("t", ycon("t", ycon("int"), dict), wrong), api.ErrKind},
	} {
		if term, e := TypeTerm(x.y); e != x.want || !identical(term, api.Term{}) {
			t.Errorf("%d: %s %v, not %v", i, typeLine(x.y), e, x.want)
		}
	}
}

// P4.2: the names of determinisms.
func TestDeterminisms(t *testing.T) {
	names := []string{"det", "semidet", "multi", "nondet", "cc_multi", "cc_nondet", "erroneous", "failure"}
	for i, name := range names {
		if d, ok := Det(name); d != i || !ok || DetName(i) != name {
			t.Error(name, d, ok, DetName(i))
		}
	}
	for _, name := range []string{"", "Det", "det ", "cc_det", "foo", "0"} {
		if d, ok := Det(name); d != 0 || ok {
			t.Error(name, d, ok)
		}
	}
	for _, d := range []int{-1, api.Dets, 100, -1 << 63} {
		if s := DetName(d); s != "" {
			t.Error(d, s)
		}
	}
}
