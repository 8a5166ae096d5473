package nondet

import "anceps/api"

// machine goes through words with a valid automaton with choices. It keeps the present set closed, so that a set is the same wherever it is reached.
type machine struct {
	n      api.NFA
	first  []int // by the number of a state and a letter: where their edges begin
	accept set
}

func newMachine(n api.NFA) machine {
	m := machine{n: n, accept: setOf(n.Accept)}
	m.first = make([]int, n.States*(n.Letters+1)+1)
	for _, edge := range n.Edges {
		m.first[m.number(edge.From, edge.Letter)+1]++
	}
	for i := 1; i < len(m.first); i++ {
		m.first[i] += m.first[i-1]
	}
	return m
}

// number counts states and letters in the order in which the edges ascend, edges that read nothing first.
func (m machine) number(state, letter int) int {
	return state*(m.n.Letters+1) + letter - silent
}

// edges returns the edges of a state with a letter.
func (m machine) edges(state, letter int) []api.Edge {
	i := m.number(state, letter)
	return m.n.Edges[m.first[i]:m.first[i+1]]
}

// closure adds to a set the states to which edges lead that read nothing.
func (m machine) closure(s set) set {
	open := s.states()
	for len(open) > 0 {
		state := open[len(open)-1]
		open = open[:len(open)-1]
		for _, edge := range m.edges(state, silent) {
			if !s.has(edge.To) {
				s.add(edge.To)
				open = append(open, edge.To)
			}
		}
	}
	return s
}

// start returns the set to which no letters lead.
func (m machine) start() set {
	return m.closure(setOf(m.n.Starts))
}

// follow returns the set to which a letter leads from a set.
func (m machine) follow(s set, letter int) set {
	var to set
	for _, state := range s.states() {
		for _, edge := range m.edges(state, letter) {
			to.add(edge.To)
		}
	}
	return m.closure(to)
}

func (m machine) accepts(s set) bool {
	return s.meets(m.accept)
}

// determined returns an automaton whose states are the reached sets.
func (m machine) determined() (api.DFA, api.Errno) {
	d := api.DFA{Letters: m.n.Letters}
	var sets []set
	numbers := map[set]int{}
	numbers[set{}] = none
	number := func(s set) int {
		i, known := numbers[s]
		if !known {
			i = len(sets)
			numbers[s] = i
			sets = append(sets, s)
		}
		return i
	}
	d.Start = number(m.start())
	for i := 0; i < len(sets); i++ {
		if len(sets) > api.MaxStates {
			return api.DFA{}, api.ErrTooLarge
		}
		row := make([]int, d.Letters)
		for letter := range row {
			row[letter] = number(m.follow(sets[i], letter))
		}
		d.Next = append(d.Next, row)
		d.Accept = append(d.Accept, m.accepts(sets[i]))
	}
	return d, api.OK
}
