package token

import (
	"strings"

	"anceps/api"
)

// blankSize returns the size of a byte of white space or a comment with which s, which is not empty, begins: 0 if with none.
func blankSize(s string) int {
	if strings.IndexByte(whiteSpace, s[0]) >= 0 {
		return 1
	}
	if s[0] != comment {
		return 0
	}
	if size := strings.Index(s, lineFeed); size >= 0 {
		return size
	}
	return len(s)
}

// firstToken returns the token with which s, which is not empty, begins, without its line, and its size.
func firstToken(s string) (api.Token, int, api.Errno) {
	switch b := s[0]; {
	case isSmall(b):
		return firstName(s)
	case isDigit(b):
		return firstNumber(s)
	case s[:1] == quote:
		return firstString(s)
	case isSign(b):
		return api.Token{Kind: api.TokenSign, Text: s[:1]}, 1, api.OK
	}
	return api.Token{}, 0, api.ErrSyntax
}

func firstName(s string) (api.Token, int, api.Errno) {
	size := nameSize(s)
	if size > api.MaxName {
		return api.Token{}, 0, api.ErrTooLarge
	}
	return api.Token{Kind: api.TokenName, Text: s[:size]}, size, api.OK
}

func firstNumber(s string) (api.Token, int, api.Errno) {
	size := digitsSize(s)
	if size > maxDigits {
		return api.Token{}, 0, api.ErrTooLarge
	}
	if _, ok := Number(s[:size]); !ok {
		return api.Token{}, 0, api.ErrSyntax
	}
	return api.Token{Kind: api.TokenNumber, Text: s[:size]}, size, api.OK
}

func firstString(s string) (api.Token, int, api.Errno) {
	rest := s[len(quote):]
	size := quotableSize(rest)
	if !strings.HasPrefix(rest[size:], quote) {
		return api.Token{}, 0, api.ErrSyntax
	}
	if size > maxQuoted {
		return api.Token{}, 0, api.ErrTooLarge
	}
	return api.Token{Kind: api.TokenString, Text: rest[:size]}, size + 2*len(quote), api.OK
}

// nameSize returns the size of the longest name with which s begins, however long it is: 0 if with none.
func nameSize(s string) int {
	if s == "" || !isSmall(s[0]) {
		return 0
	}
	size := 1
	for size < len(s) {
		switch {
		case isNamed(s[size]):
			size++
		case s[size] == minus && size+1 < len(s) && isNamed(s[size+1]):
			size += 2
		default:
			return size
		}
	}
	return size
}

// digitsSize returns the size of the run of digits with which s begins.
func digitsSize(s string) int {
	size := 0
	for size < len(s) && isDigit(s[size]) {
		size++
	}
	return size
}

// quotableSize returns the size of the longest part with which s begins whose bytes may all stand in quotes.
func quotableSize(s string) int {
	size := 0
	for size < len(s) && isQuotable(s[size]) {
		size++
	}
	return size
}

func isSmall(b byte) bool {
	return 'a' <= b && b <= 'z'
}

func isDigit(b byte) bool {
	return '0' <= b && b <= '9'
}

// isNamed reports whether b is a letter or a digit of a name.
func isNamed(b byte) bool {
	return isSmall(b) || isDigit(b)
}

func isQuotable(b byte) bool {
	return ' ' <= b && b <= '~' && b != quote[0]
}

func isSign(b byte) bool {
	return strings.IndexByte(signs, b) >= 0
}
