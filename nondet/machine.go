package nondet

import (
	"anceps/api"
	"anceps/subset"
)

// machine goes through words with a valid automaton with choices. It keeps the present set closed, so that a set is the same wherever it is reached.
type machine struct {
	n      api.NFA
	first  []int // by the number of a state and a letter: where their edges begin
	accept subset.Set
}

func newMachine(n api.NFA) machine {
	m := machine{n: n, accept: subset.Of(n.Accept...)}
	m.first = make([]int, n.States*(n.Letters+1)+1)
	for _, edge := range n.Edges {
		m.first[m.number(edge.From, edge.Letter)+1]++
	}
	for i := 1; i < len(m.first); i++ {
		m.first[i] += m.first[i-1]
	}
	return m
}

// number counts states and letters in the order in which the edges ascend, edges that read nothing first.
func (m machine) number(state, letter int) int {
	return state*(m.n.Letters+1) + letter - silent
}

// edges returns the edges of a state with a letter.
func (m machine) edges(state, letter int) []api.Edge {
	i := m.number(state, letter)
	return m.n.Edges[m.first[i]:m.first[i+1]]
}

// closure adds to a set the states to which edges lead that read nothing.
func (m machine) closure(s subset.Set) subset.Set {
	open := s.Members()
	for len(open) > 0 {
		state := open[len(open)-1]
		open = open[:len(open)-1]
		for _, edge := range m.edges(state, silent) {
			if !s.Has(edge.To) {
				s.Add(edge.To)
				open = append(open, edge.To)
			}
		}
	}
	return s
}

// start returns the set to which no letters lead.
func (m machine) start() subset.Set {
	return m.closure(subset.Of(m.n.Starts...))
}

// follow returns the set to which a letter leads from a set.
func (m machine) follow(s subset.Set, letter int) subset.Set {
	var to subset.Set
	for _, state := range s.Members() {
		for _, edge := range m.edges(state, letter) {
			to.Add(edge.To)
		}
	}
	return m.closure(to)
}

func (m machine) accepts(s subset.Set) bool {
	return s.Meets(m.accept)
}
