package steps

import (
	"slices"
	"testing"

	"cinnabar/api"
)

// apart returns an alternative without the goals of what it leaves, which must have the place of the whole, and how many of them there are.
func apart(t *testing.T, k api.Step, whole int) (api.Step, int) {
	t.Helper()
	last := len(k.Kids) - 1
	if k.Kind != api.SAnd || last < 1 || k.Kids[last].Kind != api.SSame || k.Kids[last].At != whole {
		return k, 0
	}
	for _, s := range k.Kids[1:] {
		if s.Kind != api.SSame || len(s.Args) != 2 || s.At != whole || s.Args[0].At != whole || s.Args[1].At != whole {
			t.Errorf("%s: not all at %d", stepLine(k), whole)
		}
	}
	if k.At != k.Kids[0].At {
		t.Errorf("%s at %d: its goal is at %d", stepLine(k), k.At, k.Kids[0].At)
	}
	return k.Kids[0], last
}

// P5.1: an alternative that leaves versions has the place of its own term; only what it leaves has that of the whole.
func TestPlacesOfAlternatives(t *testing.T) {
	for _, x := range []struct {
		text  string
		whole int
		left  int   // how many versions each alternative leaves
		kids  []int // the places of the alternatives: of a condition those of then and else
	}{
		// disjunctions
		{"p(!X) :- ( q ; r(!X), s ; t(!X) )", 13, 1, []int{11, 20, 26}}, {"p(!X) :- q(!X) ; r", 15, 1, []int{9, 17}}, {"p(!X) :- (q ; r(!X)) ; s", 21, 1, []int{10, 14, 23}}, {"p(!X, !Y) :- q(!Y) ; r(!X) ; fail", 19, 2, []int{13, 21, 29}},
		{"p(!X) :- q(!X) & r ; \\+ s", 19, 1, []int{15, 21}}, {"p(!X) :- X \\= Y ; some [Z] q(!X, Z)", 16, 1, []int{11, 18}}, {"p(!X) :- F ; !:X = 1 ; call(q, !X)", 11, 1, []int{9, 17, 23}}, {"p(!X) :- true, true ; q(!X)", 20, 1, []int{13, 22}},
		// disjunctions and conditions as alternatives
		{"p(!X) :- q ; ( a -> r(!X) ; s )", 11, 1, []int{9, 26}}, {"p(!X) :- q ; a -> r(!X)", 11, 1, []int{9, 15}}, {"p(!X) :- a -> ( q ; r(!X) ) ; s", 28, 1, []int{18, 30}}, {"p(!X) :- a -> q ; b -> r(!X) ; s", 16, 1, []int{14, 29}},
		// conditions
		{"p(!X) :- ( a -> !:X = 1 ; true )", 24, 1, []int{20, 26}}, {"p(!X) :- a -> q(!X), r ; s ; t", 23, 1, []int{19, 27}}, {"p(!X) :- q(!X) -> r ; s", 20, 1, []int{18, 22}}, {"p(!X, !Y) :- q(!Y) -> r(!X) ; s", 28, 2, []int{22, 30}},
		{"p(!X) :- if a then q(!X) else r", 25, 1, []int{19, 30}}, {"p(!X) :- if q(!X) then true else r, s", 28, 1, []int{23, 34}}, {"p(!X) :- if a then q else r(!X)", 21, 1, []int{19, 26}},
		// without an else part there is no term of it but the whole
		{"p(!X) :- a -> q(!X)", 11, 1, []int{14, 11}}, {"p(!X) :- q(!X) -> r", 15, 1, []int{18, 15}},
		// grammars
		{"s --> ( [a] ; t )", 12, 1, []int{9, 14}}, {"s --> t ; \"ab\" ; [] ; \"\" ; true", 8, 1, []int{6, 10, 17, 22, 27}}, {"s --> {p, q} ; t, u", 13, 1, []int{8, 16}}, {"s --> t(!X) ; {q(!X)}", 12, 2, []int{6, 15}}, {"s --> P ; call(q)", 8, 1, []int{6, 10}},
		{"s --> a -> t ; u", 13, 1, []int{11, 15}}, {"s --> if a then t else {p}", 18, 1, []int{16, 24}}, {"s --> a -> t, u", 8, 1, []int{12, 8}},
		// what leaves nothing stays as it is
		{"p(!X) :- q(!.X) ; r, s", 16, 0, []int{9, 19}}, {"p(!X) :- a -> q(!.X) ; r", 21, 0, []int{14, 23}}, {"s --> [] ; {a}", 9, 0, []int{6, 12}},
	} {
		body := clauseOf(t, x.text).Body
		kids := body.Kids
		if body.Kind == api.SIf {
			kids = kids[1:]
		}
		got := mapped(kids, func(k api.Step) int { return k.At })
		if body.At != x.whole || !slices.Equal(got, x.kids) {
			t.Errorf("%s: %d %v, not %d %v", x.text, body.At, got, x.whole, x.kids)
		}
		for _, k := range kids {
			if _, left := apart(t, k, x.whole); left != x.left {
				t.Errorf("%s: %s leaves %d, not %d", x.text, stepLine(k), left, x.left)
			}
		}
	}
}

// A placer goes through a term, each part of which has a place of its own, and through its goal.
type placer struct {
	*testing.T
	seen map[int]int // how many goals of each kind have been met
	left int         // how many versions are left by alternatives
}

// goal checks the places of the goal of a term, in a clause or in a grammar.
func (p *placer) goal(x api.Term, s api.Step, grammar bool) {
	if grammar && isApp(x, "{}", 1) {
		x, grammar = x.Args[0], false
	}
	p.seen[s.Kind]++
	if s.At != x.At {
		p.Fatalf("%s at %d: %s at %d", termLine(x), x.At, stepLine(s), s.At)
	}
	switch {
	case isApp(x, ",", 2), !grammar && isApp(x, "&", 2):
		p.goals(partsOf(x, x.Name), s.Kids, grammar)
	case isApp(x, ";", 2) && isApp(x.Args[0], "->", 2):
		p.choice(append(slices.Clone(x.Args[0].Args), x.Args[1]), s, grammar)
	case isApp(x, "->", 2):
		p.choice(append(slices.Clone(x.Args), api.Term{Kind: api.TApp, Name: "fail", At: x.At}), s, grammar)
	case isApp(x, "else", 2):
		p.choice(append(slices.Clone(x.Args[0].Args[0].Args), x.Args[1]), s, grammar)
	case isApp(x, ";", 2):
		p.goals(partsOf(x, ";"), p.alternatives(s.Kids, s.At), grammar)
	case isApp(x, "\\+", 1), isApp(x, "not", 1):
		p.goals(x.Args, s.Kids, grammar)
	case isApp(x, "some", 2):
		p.goals(x.Args[1:], s.Kids, grammar)
	case !grammar && isApp(x, "\\=", 2):
		p.goals([]api.Term{{Kind: api.TApp, Name: "=", Args: x.Args, At: x.At}}, s.Kids, false)
	case len(s.Kids) > 0:
		p.Fatalf("%s: %s", termLine(x), stepLine(s))
	}
}

func (p *placer) goals(l []api.Term, kids []api.Step, grammar bool) {
	if len(l) != len(kids) {
		p.Fatalf("%d goals of %d terms", len(kids), len(l))
	}
	for i, x := range l {
		p.goal(x, kids[i], grammar)
	}
}

// alternatives returns alternatives without what they leave.
func (p *placer) alternatives(kids []api.Step, whole int) []api.Step {
	return mapped(kids, func(k api.Step) api.Step {
		own, left := apart(p.T, k, whole)
		p.left += left
		return own
	})
}

func (p *placer) choice(l []api.Term, s api.Step, grammar bool) {
	p.goal(l[0], s.Kids[0], grammar)
	kids := p.alternatives(s.Kids[1:], s.At)
	p.goal(l[1], kids[0], grammar)
	// The part that fails, where there is none, is no call also in a grammar.
	p.goal(l[2], kids[1], grammar && !isApp(l[2], "fail", 0))
}

// P5.1: each goal has the place of its term, wherever the goal stands.
func TestPlacesOfGoals(t *testing.T) {
	m := &maker{random: 11, states: true, fields: true, lambdas: 2}
	p := placer{T: t, seen: map[int]int{}}
	clauses(t, m, 6000, func(made api.Term, _ api.Clause) {
		l, terms := []api.Term{copied(made, kept)}, map[int]api.Term{}
		for x := range within(l) {
			x.At = len(terms) + 1
			terms[x.At] = api.Term{}
		}
		for x := range within(l) {
			terms[x.At] = *x
		}
		x := l[0]
		c, f := Clause(x)
		if f.Code != api.OK || c.At != x.At {
			t.Fatalf("%s: %v, at %d", termLine(x), f, c.At)
		}
		if isApp(x, ":-", 2) || isApp(x, "-->", 2) {
			p.goal(x.Args[1], c.Body, x.Name == "-->")
		} else {
			p.goal(api.Term{Kind: api.TApp, Name: "true", At: x.At}, c.Body, false)
		}
		for _, lam := range c.Lams {
			p.goal(terms[lam.At].Args[1], lam.Body, false)
		}
	})
	for kind := range api.SHigher + 1 {
		if p.seen[kind] < 500 {
			t.Error(kind, p.seen[kind])
		}
	}
	if p.left < 3000 {
		t.Error(p.left)
	}
}
