package orthography

import (
	"strings"

	"anceps/api"
	"anceps/sound"
	"anceps/token"
)

const (
	heading = "orthography "
	space   = " "
	lineEnd = "\n"
)

// whereWord returns the word for where a sign can stand, or the empty string if there is no such place.
func whereWord(where int) string {
	switch where {
	case api.Anywhere:
		return "anywhere"
	case api.BeforeVowel:
		return "before"
	case api.AtStart:
		return "start"
	case api.Between:
		return "between"
	case api.NotBefore:
		return "not"
	}
	return ""
}

// read returns the orthography that a text describes, valid or not, and 0; or the first line that describes nothing.
func read(s string) (api.Orthography, int) {
	first, rest, ended := strings.Cut(s, lineEnd)
	name, ok := readHeading(first)
	if !ok || !ended {
		return api.Orthography{}, 1
	}
	o := api.Orthography{Name: name}
	for line := 2; rest != ""; line++ {
		first, rest, ended = strings.Cut(rest, lineEnd)
		sign, ok := readSign(first)
		if !ok || !ended {
			return api.Orthography{}, line
		}
		o.Signs = append(o.Signs, sign)
	}
	return o, 0
}

// readHeading returns the name in the first line of a text, valid or not, and whether the line is one.
func readHeading(line string) (string, bool) {
	name, ok := strings.CutPrefix(line, heading)
	return name, ok && name != "" && !strings.Contains(name, space)
}

// readSign returns the sign of a line, valid or not, and whether the line is that of a sign.
func readSign(line string) (api.Sign, bool) {
	parts := strings.Split(line, space)
	last := len(parts) - 1
	// A text, at least one sound, a cost and a word.
	if last < 3 || parts[0] == "" {
		return api.Sign{}, false
	}
	sounds, e := sound.Parse(strings.Join(parts[1:last-1], space))
	cost, isNumber := token.Number(parts[last-1])
	where, isWord := readWhere(parts[last])
	if e != api.OK || len(sounds) == 0 || !isNumber || !isWord {
		return api.Sign{}, false
	}
	return api.Sign{Text: parts[0], Sounds: sounds, Cost: cost, Where: where}, true
}

// readWhere returns the place with a word, and whether there is one.
func readWhere(word string) (int, bool) {
	for where := api.Anywhere; where <= api.NotBefore; where++ {
		if whereWord(where) == word {
			return where, true
		}
	}
	return 0, false
}
