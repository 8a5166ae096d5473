package nondet

import (
	"math/bits"

	"anceps/api"
)

const wordBits = 64

// set is a set of states: a bit for each. Sets are equal as values exactly if they contain the same states.
type set [(api.MaxStates + wordBits - 1) / wordBits]uint64

func setOf(states []int) set {
	var s set
	for _, state := range states {
		s.add(state)
	}
	return s
}

func (s *set) add(state int) {
	s[state/wordBits] |= 1 << (state % wordBits)
}

func (s set) has(state int) bool {
	return s[state/wordBits]>>(state%wordBits)&1 == 1
}

func (s set) isEmpty() bool {
	return s == set{}
}

// meets reports whether both sets have a state in common.
func (s set) meets(t set) bool {
	for i, word := range s {
		if word&t[i] != 0 {
			return true
		}
	}
	return false
}

// states returns the states, ascending.
func (s set) states() []int {
	var l []int
	for i, word := range s {
		for ; word != 0; word &= word - 1 {
			l = append(l, i*wordBits+bits.TrailingZeros64(word))
		}
	}
	return l
}
