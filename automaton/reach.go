package automaton

import (
	"slices"

	"anceps/api"
)

// reached holds the pairs of states to which words lead from both starts, without (-1, -1), in the order of the first words that lead to them.
type reached struct {
	letters int
	pairs   []api.Pair
	next    []int // by pair, and then by letter: the index of the next pair, or none
	found   []int // by pair: where it stands in next for the first time, none for the pair of the starts
}

// table finds the index of a pair.
type table struct {
	width int
	index []int // 1 more than the index, 0 for a pair without one
}

func newTable(a, b api.DFA) table {
	width := len(b.Next) + 1
	return table{width: width, index: make([]int, (len(a.Next)+1)*width)}
}

func (t table) put(p api.Pair, index int) {
	t.index[t.at(p)] = index + 1
}

// get returns the index of a pair, or none.
func (t table) get(p api.Pair) int {
	return t.index[t.at(p)] - 1
}

// knows reports whether a pair has an index, or leads nowhere.
func (t table) knows(p api.Pair) bool {
	return p == nowhere() || t.get(p) != none
}

func (t table) at(p api.Pair) int {
	return (p.A+1)*t.width + p.B + 1
}

// nowhere returns the pair to which words lead that lead to no state of either automaton.
func nowhere() api.Pair {
	return api.Pair{A: none, B: none}
}

func followPair(a, b api.DFA, p api.Pair, letter int) api.Pair {
	return api.Pair{A: follow(a, p.A, letter), B: follow(b, p.B, letter)}
}

// reach runs two valid automata with the same letters side by side.
func reach(a, b api.DFA) reached {
	r := reached{letters: a.Letters}
	t := newTable(a, b)
	start := api.Pair{A: a.Start, B: b.Start}
	if start == nowhere() {
		return r
	}
	r.add(t, start, none)
	for i := 0; i < len(r.pairs); i++ {
		for letter := range r.letters {
			to := followPair(a, b, r.pairs[i], letter)
			if !t.knows(to) {
				r.add(t, to, len(r.next))
			}
			r.next = append(r.next, t.get(to))
		}
	}
	return r
}

func (r *reached) add(t table, p api.Pair, found int) {
	t.put(p, len(r.pairs))
	r.pairs = append(r.pairs, p)
	r.found = append(r.found, found)
}

// firstWord returns the first word that leads to a pair that is wanted.
func (r reached) firstWord(wanted func(api.Pair) bool) ([]int, api.Errno) {
	i := slices.IndexFunc(r.pairs, wanted)
	if i < 0 {
		return nil, api.ErrNone
	}
	var word []int
	for r.found[i] != none {
		word = append(word, r.found[i]%r.letters)
		i = r.found[i] / r.letters
	}
	slices.Reverse(word)
	return word, api.OK
}
