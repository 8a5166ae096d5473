package division

import (
	"strings"

	"anceps/api"
	"anceps/orthography"
	"anceps/text"
)

// wordFault returns the error of an orthography or of a word, or OK.
func wordFault(o api.Orthography, word string) api.Errno {
	if e := orthography.Valid(o); e != api.OK {
		return e
	}
	switch {
	case word == "":
		return api.ErrEmpty
	case len(word) > api.MaxWord:
		return api.ErrTooLarge
	case !foldedLetters(word):
		return api.ErrSyntax
	}
	return api.OK
}

// foldedLetters reports whether a word consists of letters of lines, and none of them is a capital.
func foldedLetters(word string) bool {
	_, e := text.Join([]string{word})
	return e == api.OK && text.Fold(word) == word
}

// listFault returns the error of an orthography or of a list of its signs, or OK.
func listFault(o api.Orthography, list []int) api.Errno {
	if e := orthography.Valid(o); e != api.OK {
		return e
	}
	// Each sign has a letter at least, so that no word has more of them.
	if len(list) > api.MaxWord {
		return api.ErrTooLarge
	}
	if !areSigns(o, list) {
		return api.ErrRange
	}
	return api.OK
}

// areSigns reports whether the elements of a list are indices of signs.
func areSigns(o api.Orthography, list []int) bool {
	for _, sign := range list {
		if sign < 0 || sign >= len(o.Signs) {
			return false
		}
	}
	return true
}

// spells reports whether the texts of signs, one after the other, are a word.
func spells(o api.Orthography, list []int, word string) bool {
	for _, sign := range list {
		rest, begins := strings.CutPrefix(word, o.Signs[sign].Text)
		if !begins {
			return false
		}
		word = rest
	}
	return word == ""
}

// stands reports whether each sign of a list can stand between its neighbours.
func stands(o api.Orthography, list []int) bool {
	for i, sign := range list {
		var before, after []api.Sound
		if i > 0 {
			before = o.Signs[list[i-1]].Sounds
		}
		if i+1 < len(list) {
			after = o.Signs[list[i+1]].Sounds
		}
		if !orthography.Fits(o, sign, before, after) {
			return false
		}
	}
	return true
}
