package items

import (
	"slices"
	"strconv"
	"strings"
	"testing"

	"cinnabar/api"
	"cinnabar/pretty"
	"cinnabar/terms"
)

// A maker makes items by numbers that follow one another by a fixed rule.
type maker struct{ state uint64 }

func (m *maker) below(n int) int {
	m.state = m.state*6364136223846793005 + 1442695040888963407
	return int(m.state >> 33 % uint64(n))
}

func (m *maker) chance(n int) bool { return m.below(n) == 0 }

func (m *maker) one(names string) string {
	l := strings.Fields(names)
	return l[m.below(len(l))]
}

// several makes at least so many, and at most three more.
func several[X any](m *maker, least int, give func() X) []X {
	var l []X
	for range least + m.below(4) {
		l = append(l, give())
	}
	return l
}

func (m *maker) word() string   { return m.one("a b p q is where pred func mode list type call not int") }
func (m *maker) dotted() string { return m.one("a b m.a m.b a.b.c where pred.b list int") }

// plain returns a name of a predicate or a constructor.
func (m *maker) plain() string {
	return m.one("a b p q + - = ; , :: == <= is where A 1/2 pred func [] {} ! call / //")
}

func (m *maker) variable() api.Term { return variab(m.one("A B C _d")) }

func (m *maker) typ(depth int) api.Term {
	switch {
	case m.chance(3):
		return m.variable()
	case depth <= 0 || m.chance(3):
		return app(m.dotted())
	case m.chance(4):
		return app("pred", several(m, 0, func() api.Term { return m.typ(depth - 1) })...)
	}
	return app(m.dotted(), several(m, 0, func() api.Term { return m.typ(depth - 1) })...)
}

// term returns any term.
func (m *maker) term(depth int) api.Term {
	switch m.below(8) {
	case 0:
		return variab(m.one("X _ Y"))
	case 1:
		return num(int64(m.below(5) - 2))
	case 2:
		return str(m.one("a det :-"))
	case 3, 4:
		if depth > 0 {
			return app(m.one("f - = :: >> is :- , ; pred"), m.term(depth-1), m.term(depth-1))
		}
	case 5:
		if depth > 0 {
			return app(m.one("f - :: type not"), several(m, 1, func() api.Term { return m.term(depth - 1) })...)
		}
	}
	return app(m.one("in out free a :- det []"))
}

// named returns an application of a name that suits the arguments.
func named(name string, args []api.Term) api.Term {
	t := app(name, args...)
	if terms.Check(t) != api.OK {
		t.Name = "p"
	}
	return t
}

func (m *maker) det() api.Term { return app(DetName(m.below(api.Dets))) }

func (m *maker) need() api.Term {
	return app(m.dotted(), several(m, 1, func() api.Term { return m.typ(1) })...)
}

// restrict puts needs behind a term, or none.
func (m *maker) restrict(t api.Term) api.Term {
	if m.chance(2) {
		return t
	}
	return app("<=", t, joined(",", several(m, 1, m.need)))
}

// A call of a predicate or a function that was declared, for its modes.
type declared struct {
	function bool
	name     string
	args     int
}

// equation puts a result behind a call, of which the last argument is that.
func equation(d declared, args []api.Term) api.Term {
	if !d.function {
		return named(d.name, args)
	}
	return app("=", named(d.name, args[:d.args:d.args]), args[d.args])
}

// decl returns the declaration of a predicate or a function, and whether modes may belong to it.
func (m *maker) decl() (api.Term, declared, bool) {
	d := declared{m.chance(2), m.plain(), m.below(4)}
	n := d.args
	word := "pred"
	if d.function {
		n++
		word = "func"
	}
	var args []api.Term
	for range n {
		args = append(args, m.typ(2))
	}
	if moded := m.chance(2); moded {
		for i := range args {
			args[i] = app("::", args[i], m.term(2))
		}
		if d.function && m.chance(2) {
			return app(word, equation(d, args)), d, false
		}
		return app(word, app("is", equation(d, args), m.det())), d, false
	}
	t := app(word, equation(d, args))
	if isApp(t.Args[0], "is", 2) {
		// It would be read as one with a determinism.
		t.Args[0].Name = "isnt"
	}
	call := t.Args[0]
	if d.function {
		call = call.Args[0]
	}
	d.name = call.Name
	return t, d, d.function || d.name != "=" || d.args != 2
}

func (m *maker) head(least int) api.Term {
	var l []api.Term
	for i := range least + m.below(3) {
		l = append(l, variab("A"+strconv.Itoa(i)))
	}
	return app(m.word(), l...)
}

func (m *maker) typeDef() api.Term {
	head := m.head(0)
	switch m.below(3) {
	case 0:
		return app("type", head)
	case 1:
		return app("type", app("==", head, m.typ(3)))
	}
	fields := 0
	ctors := several(m, 1, func() api.Term {
		return named(m.plain(), several(m, 0, func() api.Term {
			if m.chance(2) {
				return m.typ(2)
			}
			fields++
			return app("::", app("f"+strconv.Itoa(fields)), m.typ(2))
		}))
	})
	if last := &ctors[len(ctors)-1]; isApp(*last, ";", 2) {
		// It would be read as two.
		last.Name = "c"
	}
	return app("type", app("--->", head, joined(";", ctors)))
}

func (m *maker) class() api.Term {
	methods := several(m, 0, func() api.Term {
		t, _, _ := m.decl()
		return t
	})
	return app("typeclass", app("where", m.restrict(m.head(1)), listOf(methods)))
}

func (m *maker) instance() api.Term {
	head := m.restrict(m.need())
	if m.chance(3) && !isApp(head, "where", 2) {
		return app("instance", head)
	}
	impls := several(m, 0, func() api.Term {
		name := m.one("m + 1/2 a")
		if m.chance(2) {
			name = "a/1 b"
		}
		return app("is", app(m.one("pred func"), app("/", app(name), num(int64(m.below(12))))), app(m.one("p + 2/3 A")))
	})
	return app("instance", app("where", head, listOf(impls)))
}

// A generated module: its items, and how deep it stands in others.
type generated struct {
	*maker
	items []api.Term
	decls []declared
}

func (g *generated) declare(t api.Term) { g.items = append(g.items, app(":-", t)) }

// item adds an item, and perhaps modes behind it.
func (g *generated) item(depth int) {
	switch g.below(12) {
	case 0:
		g.declare(app("import_module", joined(",", several(g.maker, 1, func() api.Term { return app(g.dotted()) }))))
	case 1:
		g.declare(g.typeDef())
	case 2:
		g.declare(app("inst", app("==", app(g.word()), g.term(3))))
	case 3:
		g.declare(app("mode", app("==", app(g.word()), app(">>", g.term(2), g.term(2)))))
	case 4, 5:
		t, d, free := g.decl()
		g.declare(g.restrict(t))
		// A later declaration of the same name, of which modes are its own, takes no more.
		g.decls = slices.DeleteFunc(g.decls, func(e declared) bool { return e == d })
		if free {
			g.decls = append(g.decls, d)
		}
	case 6, 7:
		g.mode()
	case 8:
		g.declare(g.class())
	case 9:
		g.declare(g.instance())
	case 10:
		g.declare(app("promise", app(g.one("assoc commut"), app(g.one("p + A a")))))
	case 11:
		if depth > 0 {
			inner := generated{maker: g.maker}
			inner.module(depth-1, true)
			g.items = append(g.items, inner.items...)
			return
		}
		g.items = append(g.items, app(g.one(":- --> f"), g.term(3), g.term(3)))
	}
}

// mode adds a mode of something that was declared before.
func (g *generated) mode() {
	if len(g.decls) == 0 {
		return
	}
	d := g.decls[g.below(len(g.decls))]
	n := d.args
	if d.function {
		n++
	}
	var args []api.Term
	for range n {
		args = append(args, g.term(2))
	}
	call := equation(d, args)
	if !d.function && call.Name != d.name || d.function && call.Args[0].Name != d.name {
		return
	}
	g.declare(app("mode", app("is", call, g.det())))
}

// module adds a module, with its end if that must be there.
func (g *generated) module(depth int, end bool) {
	name := app(g.dotted())
	g.declare(app("module", name))
	for range g.below(4) {
		g.declare(app(g.one("interface implementation")))
		for range g.below(9) {
			g.item(depth)
		}
	}
	if end || g.chance(2) {
		g.declare(app("end_module", name))
	}
}

// modules yields the items of generated modules.
func modules(n int, yield func([]api.Term)) {
	m := maker{state: 1}
	for range n {
		g := generated{maker: &m}
		g.module(2, false)
		yield(g.items)
	}
}

// P4.3: a module that Make returned is written, and read back, as terms and as a text.
func TestReadBack(t *testing.T) {
	items := 0
	modules(3000, func(l []api.Term) {
		items += len(l)
		u, f := Make(l)
		if f.Code != api.OK {
			s, _ := pretty.Items(l)
			t.Fatalf("%v: %s", f, s)
		}
		back, e := Terms(u)
		again, f := Make(back)
		if e != api.OK || f.Code != api.OK || whole(again) != whole(u) {
			t.Fatalf("%v %v: %s not %s", e, f, whole(again), whole(u))
		}
		// What is public stands in front now, so that nothing changes any more.
		more, e := Terms(again)
		if e != api.OK || !slices.EqualFunc(more, back, identical) {
			t.Fatalf("%v: %s", e, whole(u))
		}
		s, e := pretty.Items(back)
		read, f := Text(s)
		if e != api.OK || f.Code != api.OK || whole(read) != whole(u) {
			t.Fatalf("%v %v: %s not %s", e, f, s, whole(u))
		}
	})
	if items < 30000 {
		t.Error(items)
	}
}

// spots yields the terms of a term in preorder.
func spots(t *api.Term, yield func(*api.Term)) {
	yield(t)
	for i := range t.Args {
		spots(&t.Args[i], yield)
	}
}

// P4.1, P4.3: where a part of an item is another one, Make has a fault there, or returns a module that is read back.
func TestOtherParts(t *testing.T) {
	m := maker{state: 7}
	faults, read := map[api.Errno]int{}, 0
	modules(4000, func(l []api.Term) {
		i := m.below(len(l))
		l[i] = copied(l[i], kept)
		count, size := 0, terms.Size(l[i])
		wanted := m.below(size)
		spots(&l[i], func(x *api.Term) {
			if count++; count-1 == wanted {
				*x = []api.Term{m.typ(1), m.term(1), m.variable(), app(m.plain()), app(m.word()), m.need(), app(m.dotted()), app("::", m.typ(1), m.term(1)), app("<=", m.typ(1), m.need())}[m.below(9)]
			}
		})
		u, f := Make(l)
		if f.Code != api.OK {
			faults[f.Code]++
			if whole(u) != whole(Unit{}) {
				t.Errorf("%v: %s", f, whole(u))
			}
			return
		}
		read++
		back, e := Terms(u)
		again, f := Make(back)
		if e != api.OK || f.Code != api.OK || whole(again) != whole(u) {
			s, _ := pretty.Items(l)
			t.Errorf("%v %v: %s", e, f, s)
		}
	})
	if read < 500 || faults[api.ErrSyntax] < 500 || faults[api.ErrMode] < 10 || faults[api.ErrNone] < 10 {
		t.Error(read, faults)
	}
}

// The forms of all declarations. What begins with any may be another term.
const forms = ":- import_module a, b.c. :- type t(A, B) ---> c(f :: int, list(A)) ; d ; e(pred(B)). :- type t(A) == u(A, pred(int)). :- type t(A). :- inst i == any(any1). :- mode i == (any(any1) >> any2). " +
	":- pred p(int, list(A)) <= (c(A), d(B, int)). :- pred p(int::any(any1), list(A)::any2) is det <= c(A). :- pred z is det. :- func f(int) = list(A). :- func f(int::any) = list(A)::any(any1) is det <= c(A). :- func g = int. :- func h(a::any) = b::any2. " +
	":- pred q(a, b). :- mode q(any(any1), any2) is det. :- func k(a) = b. :- mode k(any(any1)) = any2 is det. " +
	":- typeclass c(A, B) where [pred p(A), pred p(A::any) is det, func f(A::any) = (B::any1) is det]. :- typeclass c(A) <= (d(A), e(A, int)) where []. :- instance c(int, list(A)). :- instance c(list(A)) <= (c(A), d(A)) where [pred(m/1) is p, func(m/2) is p]. :- instance c(int) <= d(int). " +
	":- promise assoc(p). :- promise commut(p). :- module s.t. :- end_module s.t."

// P4.1: a string can stand in no place of a declaration but in those of any terms; of two of them the first one in preorder is the fault.
func TestEachPlace(t *testing.T) {
	list := parse(t, start+forms)
	if u, f := Make(list); f.Code != api.OK {
		t.Fatal(f, whole(u))
	}
	for i := 2; i < len(list); i++ {
		size := terms.Size(list[i])
		for first := 1; first < size; first++ {
			for second := first; second < size; second++ {
				wantAt(t, list, i, first, second)
			}
		}
	}
}

// wantAt puts strings in two places of an item, the second one unless it stands in the first one, and checks the fault.
func wantAt(t *testing.T, list []api.Term, i, first, second int) {
	t.Helper()
	l := slices.Clone(list)
	l[i] = copied(list[i], kept)
	count, want, inside := 0, 0, 0
	var place func(*api.Term, bool)
	place = func(x *api.Term, free bool) {
		here := count
		count++
		free = free || strings.HasPrefix(x.Name, "any")
		for k := range x.Args {
			place(&x.Args[k], free)
		}
		switch {
		case here == first:
			inside = count
		case here != second || second < inside:
			return
		}
		*x = api.Term{Kind: api.TText, Name: "x", At: 100000 + here}
		if !free && (want == 0 || 100000+here < want) {
			want = 100000 + here
		}
	}
	place(&l[i], false)
	code := api.OK
	if want > 0 {
		code = api.ErrSyntax
	}
	if _, f := Make(l); f != (api.Fault{At: want, Code: code}) {
		s, _ := pretty.Items(l[i : i+1])
		t.Errorf("%s: %v, not %d", s, f, want)
	}
}

// P4.3: a declaration with its mode may be nested too deeply, where each of them alone is not.
func TestTooDeep(t *testing.T) {
	deep := func(n int) string { return strings.Repeat("f(", n-1) + "a" + strings.Repeat(")", n-1) }
	for _, x := range []struct {
		text      string
		one, more api.Errno
	}{
		{":- pred p(" + deep(59) + "). :- mode p(in) is det.", api.OK, api.OK}, {":- pred p(" + deep(60) + "). :- mode p(in) is det.", api.ErrLimit, api.OK}, {":- pred p(" + deep(61) + "). :- mode p(in) is det.", api.ErrLimit, api.OK},
		{":- pred p(a). :- mode p(" + deep(59) + ") is det.", api.OK, api.OK}, {":- pred p(a). :- mode p(" + deep(60) + ") is det.", api.ErrLimit, api.OK},
	} {
		if _, e := Terms(unitOf(t, start+x.text)); e != x.one {
			t.Error(x.text, e)
		}
		if _, e := Terms(unitOf(t, start+x.text+" :- mode p(out) is det.")); e != x.more {
			t.Error(x.text, e)
		}
	}
}

// P4.3: types that TypeTerm writes are read by Type.
func TestTypesReadBack(t *testing.T) {
	m := maker{state: 3}
	var random func(depth int) api.Type
	random = func(depth int) api.Type {
		y := api.Type{Kind: m.below(3), Name: m.one("A B _x a b list pred m.a m.pred _ + a.B x")}
		if y.Kind == api.YPred && !m.chance(9) {
			y.Name = ""
		}
		if depth > 0 && (y.Kind != api.YVar || m.chance(20)) {
			y.Args = several(&m, 0, func() api.Type { return random(depth - 1) })
		}
		return y
	}
	written := 0
	for range 20000 {
		y := random(3)
		term, e := TypeTerm(y)
		if e != api.OK {
			continue
		}
		written++
		if again, e := Type(term); e != api.OK || !sameType(again, y) {
			t.Error(typeLine(y), typeLine(again), e)
		}
	}
	if written < 2000 {
		t.Error(written)
	}
}

// scrambled changes all terms and types of a module, in the memory that it has.
func scrambled(u *Unit) {
	change := func(l []api.Term) {
		for i := range l {
			spots(&l[i], func(x *api.Term) { x.Name, x.At = "scrambled", -1 })
		}
	}
	var types func([]api.Type)
	types = func(l []api.Type) {
		for i := range l {
			types(l[i].Args)
			l[i].Name = "scrambled"
		}
	}
	decls := func(l []api.Decl) {
		for i, d := range l {
			types(d.Types)
			for _, n := range d.Needs {
				types(n.Types)
			}
			for _, m := range d.Modes {
				change(m.Args)
			}
			l[i] = api.Decl{Name: "scrambled"}
		}
	}
	m := &u.Module
	for _, x := range m.Types {
		for _, c := range x.Ctors {
			types(c.Args)
		}
		types(x.Same.Args)
	}
	for i := range m.Insts {
		change(m.Insts[i].Body.Args)
	}
	for i := range m.Modes {
		change(m.Modes[i].From.Args)
		change(m.Modes[i].To.Args)
	}
	decls(m.Decls)
	for _, c := range m.Classes {
		decls(c.Methods)
	}
	for _, x := range m.Instances {
		types(x.Types)
		for _, n := range x.Needs {
			types(n.Types)
		}
	}
	for i := range u.Kids {
		scrambled(&u.Kids[i])
	}
	change(u.Clauses)
}

// P1, P2: arguments and results share no memory, and equal calls have equal results.
func TestMemory(t *testing.T) {
	modules(300, func(l []api.Term) {
		before := mapped(l, func(x api.Term) api.Term { return copied(x, kept) })
		u, f := Make(l)
		v, g := Make(l)
		text := whole(u)
		back, e := Terms(u)
		if f != g || text != whole(v) || e != api.OK {
			t.Fatal(f, g, e)
		}
		written := mapped(back, func(x api.Term) api.Term { return copied(x, kept) })
		scrambled(&u)
		if !slices.EqualFunc(l, before, identical) || !slices.EqualFunc(back, written, identical) || whole(v) != text {
			t.Error(text)
		}
		for i := range l {
			spots(&l[i], func(x *api.Term) { x.Name = "changed" })
			spots(&back[0], func(x *api.Term) { x.Name = "changed" })
		}
		if whole(v) != text {
			t.Error(text)
		}
	})
}
