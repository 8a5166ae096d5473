package automaton

import (
	"slices"

	"anceps/api"
)

// sources holds by target, and then by letter, from where the letter leads to the target.
type sources struct {
	letters     int
	first, from []int // those of the number n of target and letter are from[first[n]:first[n+1]]
}

func (r reached) sources() sources {
	s := sources{letters: r.letters, first: make([]int, len(r.next)+1)}
	for at, to := range r.next {
		if to != none {
			s.first[s.number(to, at%r.letters)+1]++
		}
	}
	for n := range r.next {
		s.first[n+1] += s.first[n]
	}
	s.from = make([]int, s.first[len(r.next)])
	free := slices.Clone(s.first)
	for at, to := range r.next {
		if to != none {
			n := s.number(to, at%r.letters)
			s.from[free[n]] = at / r.letters
			free[n]++
		}
	}
	return s
}

func (s sources) number(target, letter int) int {
	return target*s.letters + letter
}

// by returns from where a letter leads to a target.
func (s sources) by(target, letter int) []int {
	n := s.number(target, letter)
	return s.from[s.first[n]:s.first[n+1]]
}

// all returns from where any letter leads to a target.
func (s sources) all(target int) []int {
	return s.from[s.first[s.number(target, 0)]:s.first[s.number(target+1, 0)]]
}

// live returns for each state whether some word leads from it to a state that accepts.
func (s sources) live(accept []bool) []bool {
	live := slices.Clone(accept)
	var open []int
	for state, accepts := range accept {
		if accepts {
			open = append(open, state)
		}
	}
	for len(open) > 0 {
		state := open[len(open)-1]
		open = open[:len(open)-1]
		for _, from := range s.all(state) {
			if !live[from] {
				live[from] = true
				open = append(open, from)
			}
		}
	}
	return live
}

// minimal returns the minimal automaton of the words that lead to a pair that accepts.
func (r reached) minimal(accept []bool) (api.DFA, api.Errno) {
	s := r.sources()
	p := newPartition(accept, s.live(accept))
	p.refine(s)
	if len(p.spans) > api.MaxStates {
		return api.DFA{}, api.ErrTooLarge
	}
	m := api.DFA{Letters: r.letters, Start: none}
	if len(p.spans) > 0 {
		m.Start = 0
	}
	// The pairs are in the order of their first words, so that their classes are met here in the order in which they are to be numbered.
	number := make([]int, len(p.spans))
	var members []int
	for i, class := range p.class {
		if class != none && number[class] == 0 {
			members = append(members, i)
			number[class] = len(members)
		}
	}
	for _, i := range members {
		row := make([]int, r.letters)
		for letter, to := range r.next[i*r.letters : (i+1)*r.letters] {
			row[letter] = none
			if to != none && p.class[to] != none {
				row[letter] = number[p.class[to]] - 1
			}
		}
		m.Next = append(m.Next, row)
		m.Accept = append(m.Accept, accept[i])
	}
	return m, api.OK
}
