// Package text is layer 1: see shared/doc/01-text.md.
package text

import (
	"strings"

	"anceps/api"
)

const (
	punctuation = " .,;:!?\"-[]<>{}"
	lineFeed    = "\n"
	firstByte   = ' '
	lastByte    = '~'
	maxLines    = 400
)

// Valid returns the error of a line, or OK.
func Valid(line string) api.Errno {
	if len(line) > api.MaxLine {
		return api.ErrTooLarge
	}
	for i := 0; i < len(line); i++ {
		if !belongsToLine(line[i]) {
			return api.ErrSyntax
		}
	}
	return api.OK
}

// Words returns the spans of the words of a line.
func Words(line string) ([]api.Span, api.Errno) {
	if e := Valid(line); e != api.OK {
		return nil, e
	}
	var spans []api.Span
	from := 0
	for at := 0; at <= len(line); at++ {
		if at < len(line) && isLetter(line[at]) {
			continue
		}
		if from < at {
			spans = append(spans, api.Span{From: from, To: at})
		}
		from = at + 1
	}
	return spans, api.OK
}

// Word returns the folded word with the index i.
func Word(line string, i int) (string, api.Errno) {
	spans, e := Words(line)
	if e != api.OK {
		return "", e
	}
	if i < 0 || i >= len(spans) {
		return "", api.ErrRange
	}
	return Fold(line[spans[i].From:spans[i].To]), api.OK
}

// Fold puts the small letters a to z in the place of the capitals A to Z.
func Fold(s string) string {
	// Bytes, not runes: a string that is no UTF-8 keeps its other bytes.
	folded := []byte(s)
	for i, b := range folded {
		if 'A' <= b && b <= 'Z' {
			folded[i] = b - 'A' + 'a'
		}
	}
	return string(folded)
}

// Join returns the words, separated by single spaces.
func Join(words []string) (string, api.Errno) {
	size := 0
	for i, w := range words {
		if w == "" {
			return "", api.ErrEmpty
		}
		if !onlyLetters(w) {
			return "", api.ErrSyntax
		}
		if i > 0 {
			size++
		}
		size += len(w)
	}
	if size > api.MaxLine {
		return "", api.ErrTooLarge
	}
	return strings.Join(words, " "), api.OK
}

// Lines returns the lines of a text, without their line feeds.
func Lines(text string) ([]string, api.Errno) {
	if text == "" {
		return nil, api.OK
	}
	if !strings.HasSuffix(text, lineFeed) {
		return nil, api.ErrSyntax
	}
	// Counted first, so that a text that is too large is not split.
	if strings.Count(text, lineFeed) > maxLines {
		return nil, api.ErrTooLarge
	}
	lines := strings.Split(strings.TrimSuffix(text, lineFeed), lineFeed)
	if e := firstError(lines); e != api.OK {
		return nil, e
	}
	return lines, api.OK
}

// Text returns the text of lines.
func Text(lines []string) (string, api.Errno) {
	if len(lines) > maxLines {
		return "", api.ErrTooLarge
	}
	if e := firstError(lines); e != api.OK {
		return "", e
	}
	var text strings.Builder
	for _, line := range lines {
		text.WriteString(line)
		text.WriteString(lineFeed)
	}
	return text.String(), api.OK
}

// Same reports whether both are lines with the same folded words in the same order.
func Same(a, b string) bool {
	inA, errorA := Words(a)
	inB, errorB := Words(b)
	if errorA != api.OK || errorB != api.OK || len(inA) != len(inB) {
		return false
	}
	for i := range inA {
		if Fold(a[inA[i].From:inA[i].To]) != Fold(b[inB[i].From:inB[i].To]) {
			return false
		}
	}
	return true
}

func belongsToLine(b byte) bool {
	return firstByte <= b && b <= lastByte
}

func isLetter(b byte) bool {
	return belongsToLine(b) && strings.IndexByte(punctuation, b) < 0
}

func onlyLetters(s string) bool {
	for i := 0; i < len(s); i++ {
		if !isLetter(s[i]) {
			return false
		}
	}
	return true
}

func firstError(lines []string) api.Errno {
	for _, line := range lines {
		if e := Valid(line); e != api.OK {
			return e
		}
	}
	return api.OK
}
