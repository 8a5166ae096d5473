// Package subset helps the layers that go through words with sets of states: it has sets of small numbers, and automata whose states are such sets.
package subset

import (
	"math/bits"

	"anceps/api"
)

const (
	// Size is how many numbers there are: room for the states of an automaton, or for the leaves of an expression and its beginning.
	Size = 448

	wordBits = 64
	none     = -1 // what stands for a state where there is none
)

// Set is a set of numbers from 0 to Size - 1: a bit for each. Sets are equal as values exactly if they contain the same numbers.
type Set [Size / wordBits]uint64

// Of returns the set of some numbers.
func Of(members ...int) Set {
	var s Set
	for _, member := range members {
		s.Add(member)
	}
	return s
}

// Add adds a number.
func (s *Set) Add(member int) {
	s[member/wordBits] |= 1 << (member % wordBits)
}

// Has reports whether a number is in the set.
func (s Set) Has(member int) bool {
	return s[member/wordBits]>>(member%wordBits)&1 == 1
}

// IsEmpty reports whether there is no number in the set.
func (s Set) IsEmpty() bool {
	return s == Set{}
}

// Or returns the numbers that are in at least one of both sets.
func (s Set) Or(t Set) Set {
	for i, word := range t {
		s[i] |= word
	}
	return s
}

// And returns the numbers that are in both sets.
func (s Set) And(t Set) Set {
	for i, word := range t {
		s[i] &= word
	}
	return s
}

// Meets reports whether both sets have a number in common.
func (s Set) Meets(t Set) bool {
	return !s.And(t).IsEmpty()
}

// Members returns the numbers, ascending.
func (s Set) Members() []int {
	var l []int
	for i, word := range s {
		for ; word != 0; word &= word - 1 {
			l = append(l, i*wordBits+bits.TrailingZeros64(word))
		}
	}
	return l
}

// Automaton returns an automaton whose states are the sets that are not empty to which words lead from start: follow says where a letter leads from a set. With more than api.MaxStates of these sets it returns ErrTooLarge.
func Automaton(letters int, start Set, follow func(s Set, letter int) Set, accepts func(s Set) bool) (api.DFA, api.Errno) {
	d := api.DFA{Letters: letters}
	var sets []Set
	numbers := map[Set]int{}
	numbers[Set{}] = none
	number := func(s Set) int {
		i, known := numbers[s]
		if !known {
			i = len(sets)
			numbers[s] = i
			sets = append(sets, s)
		}
		return i
	}
	d.Start = number(start)
	for i := 0; i < len(sets); i++ {
		if len(sets) > api.MaxStates {
			return api.DFA{}, api.ErrTooLarge
		}
		row := make([]int, letters)
		for letter := range row {
			row[letter] = number(follow(sets[i], letter))
		}
		d.Next = append(d.Next, row)
		d.Accept = append(d.Accept, accepts(sets[i]))
	}
	return d, api.OK
}
