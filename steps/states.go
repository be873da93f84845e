package steps

import (
	"slices"
	"strconv"

	"cinnabar/api"
)

// The state variable of a grammar, which no text can name.
const sequence = "-"

// States are the state variables of a clause, in the order of their first occurrence in it.
type states struct {
	names []string
	index map[string]int
	made  []int // the number of the newest version of each one
	now   []int // the number of the version of each one that is current
}

// An ending says what a part of a goal leaves: the versions of those state variables that it began with another version of.
type ending map[int]int

// add adds a state variable, unless it is there.
func (s *states) add(name string) {
	if _, ok := s.index[name]; ok {
		return
	}
	if s.index == nil {
		s.index = map[string]int{}
	}
	s.index[name] = len(s.names)
	s.names = append(s.names, name)
	s.made = append(s.made, 0)
	s.now = append(s.now, 0)
}

// find adds the state variables of a term.
func (s *states) find(t api.Term) {
	for x := range within([]api.Term{t}) {
		if isMarked(*x) && x.Args[0].Kind == api.TVar {
			s.add(x.Args[0].Name)
		}
	}
}

// fresh makes a new version of a state variable.
func (s *states) fresh(x int) int {
	s.made[x]++
	return s.made[x]
}

// version returns the name of a version.
func (s *states) version(x, number int) string {
	return "!" + s.names[x] + strconv.Itoa(number)
}

// snapshot returns the current versions, to which backTo goes back.
func (s *states) snapshot() []int { return slices.Clone(s.now) }

func (s *states) backTo(before []int) { copy(s.now, before) }

// leave returns what a part leaves that began with these versions, and goes back to them.
func (s *states) leave(before []int) ending {
	e := ending{}
	for x, v := range s.now {
		if v != before[x] {
			e[x] = v
		}
	}
	s.backTo(before)
	return e
}

// markedState returns the term of a state variable with a mark.
func markedState(mark, name string, at int) api.Term {
	return api.Term{Kind: api.TApp, Name: mark, Args: []api.Term{{Kind: api.TVar, Name: name, At: at}}, At: at}
}
