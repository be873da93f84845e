package items

import (
	"cinnabar/api"
	"cinnabar/terms"
)

// A module that is being read.
type module struct {
	unit   Unit
	begun  bool              // a section has begun
	public bool              // the section is an interface
	decls  map[signature]int // the index of the last declaration of each predicate and function
	own    map[int]bool      // of declarations: they have a mode of their own
}

// A signature is what a mode declaration says of the predicate, or function, that it belongs to.
type signature struct {
	function bool
	name     string
	args     int
}

// A reader goes through items.
type reader struct {
	open  []*module // those that are being read, each one in that before it
	ended bool      // the end of the outermost one was met
}

// An item is what a term says, wherever it stands.
type item struct {
	early bool          // it may stand before the first section
	fault api.Fault     // what is wrong with it, if it may stand where it does
	put   func(*reader) // what it does there
}

// read returns the module of items.
func read(l []api.Term) Unit {
	for _, t := range l {
		if e := terms.Check(t); e != api.OK {
			panic(api.Fault{At: t.At, Code: e})
		}
	}
	if len(l) == 0 {
		panic(api.Fault{Code: api.ErrEmpty})
	}
	var r reader
	r.begin(firstName(l[0]), l[0].At)
	for _, t := range l[1:] {
		r.add(t)
	}
	if len(r.open) > 1 {
		panic(api.Fault{Code: api.ErrEmpty})
	}
	return r.top().unit
}

// firstName returns the name in the first item, which must be that of a module.
func firstName(t api.Term) string {
	must(isDeclaration(t), t)
	mustApp(t.Args[0], "module", 1)
	return moduleName(t.Args[0].Args[0])
}

// moduleName returns the name of a module, which may have points.
func moduleName(t api.Term) string {
	must(isAtom(t) && isDotted(t.Name), t)
	return t.Name
}

// isDeclaration reports whether an item is no clause.
func isDeclaration(t api.Term) bool { return isApp(t, ":-", 1) }

// add reads an item where it stands.
func (r *reader) add(t api.Term) {
	i := clause(t)
	if isDeclaration(t) {
		i = declaration(t.Args[0], t.At)
	}
	if r.ended || !i.early && !r.top().begun {
		panic(api.Fault{At: t.At, Code: api.ErrOrder})
	}
	if i.fault.Code != api.OK {
		panic(i.fault)
	}
	i.put(r)
}

// top returns the innermost module that is being read.
func (r *reader) top() *module { return r.open[len(r.open)-1] }

// begin begins a module, which is public if it stands in an interface.
func (r *reader) begin(name string, at int) {
	m := &module{decls: map[signature]int{}, own: map[int]bool{}}
	m.unit.Module = api.Module{Name: name, At: at}
	if len(r.open) > 0 {
		m.unit.Module.Public = r.top().public
	}
	r.open = append(r.open, m)
}

// end ends the innermost module, which must have this name.
func (r *reader) end(name string, at int) {
	m := r.top()
	if m.unit.Module.Name != name {
		panic(api.Fault{At: at, Code: api.ErrName})
	}
	if len(r.open) == 1 {
		r.ended = true
		return
	}
	r.open = r.open[:len(r.open)-1]
	r.top().unit.Kids = append(r.top().unit.Kids, m.unit)
}

// declare adds a declaration of a predicate or a function; own: it has a mode of its own.
func (m *module) declare(d api.Decl) {
	args := len(d.Types)
	if d.Func {
		args--
	}
	i := len(m.unit.Module.Decls)
	m.decls[signature{d.Func, d.Name, args}] = i
	m.own[i] = len(d.Modes) > 0
	d.Public = m.public
	m.unit.Module.Decls = append(m.unit.Module.Decls, d)
}

// addMode adds a mode to the last declaration with a signature.
func (m *module) addMode(s signature, mode api.Moding, at int) {
	i, ok := m.decls[s]
	if !ok {
		panic(api.Fault{At: at, Code: api.ErrNone})
	}
	if m.own[i] {
		panic(api.Fault{At: at, Code: api.ErrMode})
	}
	d := &m.unit.Module.Decls[i]
	d.Modes = append(d.Modes, mode)
}
