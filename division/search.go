package division

import (
	"slices"
	"strings"

	"anceps/api"
	"anceps/orthography"
	"anceps/sound"
)

// What a sign has beside it. No sign asks for more than this (layer 12), so that all neighbours of a kind are alike.
const (
	border = iota // the start or the end of the word
	consonant
	nucleus
	kinds
)

// ways has for each kind the number of ways to go on with a sign of this kind, at most maxDivisions+1.
type ways [kinds]int

// search goes through the divisions of a word.
type search struct {
	o    api.Orthography
	word string
	// rests has the ways to divide the rest of the word, by the place where it begins and by what is ahead of it.
	// With them no division is tried in vain, and none is listed where there are too many.
	rests [api.MaxWord + 1][kinds]ways
}

// begin returns the search for the divisions of a word, if there are some and not too many.
func begin(o api.Orthography, word string) (*search, api.Errno) {
	if e := wordFault(o, word); e != api.OK {
		return nil, e
	}
	s := &search{o: o, word: word}
	s.fill()
	switch n := s.count(); {
	case n == 0:
		return nil, api.ErrUnknown
	case n > maxDivisions:
		return nil, api.ErrTooLarge
	}
	return s, api.OK
}

// fill counts the ways from the end of the word to its start.
func (s *search) fill() {
	for before := range kinds {
		s.rests[len(s.word)][before][border] = 1
	}
	for at := len(s.word) - 1; at >= 0; at-- {
		for i, sign := range s.o.Signs {
			if !strings.HasPrefix(s.word[at:], sign.Text) {
				continue
			}
			for before := range kinds {
				rest := &s.rests[at][before][first(sign)]
				*rest = min(*rest+sum(s.behind(i, at, before)), maxDivisions+1)
			}
		}
	}
}

// behind returns the ways to go on behind a sign that stands at a place and has a neighbour ahead of it.
func (s *search) behind(sign, at, before int) ways {
	here := s.o.Signs[sign]
	next := s.rests[at+len(here.Text)][last(here)]
	for after := range kinds {
		if !orthography.Fits(s.o, sign, example(before), example(after)) {
			next[after] = 0
		}
	}
	return next
}

// count returns the number of divisions, or any number above maxDivisions, if there are more.
func (s *search) count() int {
	return sum(s.rests[0][border])
}

// list returns the divisions in lexicographic order.
func (s *search) list() [][]int {
	var divisions [][]int
	var extend func(division []int, at, before int, open ways)
	extend = func(division []int, at, before int, open ways) {
		if at == len(s.word) {
			if open[border] > 0 {
				divisions = append(divisions, slices.Clone(division))
			}
			return
		}
		for i, sign := range s.o.Signs {
			if open[first(sign)] > 0 && strings.HasPrefix(s.word[at:], sign.Text) {
				extend(append(division, i), at+len(sign.Text), last(sign), s.behind(i, at, before))
			}
		}
	}
	extend(nil, 0, border, s.rests[0][border])
	return divisions
}

// sum returns the number of all ways.
func sum(w ways) int {
	n := 0
	for _, some := range w {
		n += some
	}
	return n
}

// first returns the kind of a sign for the one ahead of it.
func first(sign api.Sign) int {
	return kind(sign.Sounds[0])
}

// last returns the kind of a sign for the one behind it.
func last(sign api.Sign) int {
	return kind(sign.Sounds[len(sign.Sounds)-1])
}

// kind returns the kind of a neighbour with this sound at the side of a sign.
func kind(s api.Sound) int {
	if sound.Nucleus(s) {
		return nucleus
	}
	return consonant
}

// example returns the sounds of a neighbour of a kind.
func example(kind int) []api.Sound {
	switch kind {
	case nucleus:
		return []api.Sound{{Kind: api.Vowel, Quantity: api.Open, Text: "a"}}
	case consonant:
		return []api.Sound{{Kind: api.Mute, Text: "t"}}
	}
	return nil
}

// sortByCost puts divisions in lexicographic order into that of divisions.
func sortByCost(o api.Orthography, divisions [][]int) {
	slices.SortStableFunc(divisions, func(a, b []int) int { return cost(o, a) - cost(o, b) })
}

// cost returns the sum of the costs of signs.
func cost(o api.Orthography, list []int) int {
	total := 0
	for _, sign := range list {
		total += o.Signs[sign].Cost
	}
	return total
}
