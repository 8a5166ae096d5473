package sound

import (
	"strconv"
	"strings"

	"anceps/api"
)

const (
	space       = " "
	slash       = "/"
	kindLetters = "vdmlnsxgb" // the letter of the kind k is at k - 1
	accents     = "_^'"
)

// written returns how a valid sound stands in a text.
func written(s api.Sound) string {
	text := s.Text + slash + kindLetters[s.Kind-1:s.Kind]
	if Nucleus(s) {
		text += strconv.Itoa(s.Quantity)
	}
	return text
}

// read returns the valid sound that is written as part, and whether there is one.
func read(part string) (api.Sound, bool) {
	text, rest, _ := strings.Cut(part, slash)
	if rest == "" {
		return api.Sound{}, false
	}
	s := api.Sound{Kind: strings.IndexByte(kindLetters, rest[0]) + 1, Text: text}
	if len(rest) == 2 {
		s.Quantity = int(rest[1]) - '0'
	}
	// Writing the sound again finds all that has been overlooked: a digit that is too many, or a consonant with one.
	if Valid(s) != api.OK || written(s) != part {
		return api.Sound{}, false
	}
	return s, true
}

// onlyMarks reports whether all bytes may stand in the text of a sound.
func onlyMarks(text string) bool {
	for i := 0; i < len(text); i++ {
		if !isMark(text[i]) {
			return false
		}
	}
	return true
}

func isMark(b byte) bool {
	return 'a' <= b && b <= 'z' || '0' <= b && b <= '9' || strings.IndexByte(accents, b) >= 0
}
