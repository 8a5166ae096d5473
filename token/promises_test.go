package token_test

import (
	"math"
	"regexp"
	"slices"
	"strings"
	"testing"

	"anceps/api"
	"anceps/token"
)

// What stands at the beginning of a text, one expression for each kind of part.
var (
	blankPart  = regexp.MustCompile(`^(?:[ \t\r\n]|#[^\n]*)+`)
	namePart   = regexp.MustCompile(`^[a-z][a-z0-9]*(?:-[a-z0-9]+)*`)
	numberPart = regexp.MustCompile(`^[0-9]+`)
	stringPart = regexp.MustCompile(`^"[ !#-~]*"`)
	signPart   = regexp.MustCompile(`^[{}()\[\]/;:~@=^,.|+*<>-]`)
)

// divide returns what Tokens is to return for a text that is not too large.
func divide(s string) ([]api.Token, int, api.Errno) {
	var l []api.Token
	line := 1
	for s != "" {
		part, t, e := blankPart.FindString(s), api.Token{}, api.OK
		if part == "" {
			part, t, e = firstPart(s)
			t.Line = line
			l = append(l, t)
		}
		if e != api.OK {
			return nil, line, e
		}
		line += strings.Count(part, "\n")
		s = s[len(part):]
	}
	return l, 0, api.OK
}

// firstPart returns the token at the beginning of a text, and what it takes there.
func firstPart(s string) (string, api.Token, api.Errno) {
	if part := namePart.FindString(s); part != "" {
		return part, name(part), tooLarge(len(part) > 20)
	}
	if part := numberPart.FindString(s); part != "" {
		if part[0] == '0' && 1 < len(part) && len(part) < 7 {
			return part, api.Token{}, api.ErrSyntax
		}
		return part, number(part), tooLarge(len(part) > 6)
	}
	if part := stringPart.FindString(s); part != "" {
		return part, quoted(part[1 : len(part)-1]), tooLarge(len(part) > 62)
	}
	if part := signPart.FindString(s); part != "" {
		return part, sign(part), api.OK
	}
	return "", api.Token{}, api.ErrSyntax
}

func tooLarge(is bool) api.Errno {
	if is {
		return api.ErrTooLarge
	}
	return api.OK
}

// texts returns all strings of the given parts, of at most the given number of parts.
func texts(parts []string, most int) []string {
	all := []string{""}
	for from := 0; most > 0; most-- {
		to := len(all)
		for _, s := range all[from:to] {
			for _, p := range parts {
				all = append(all, s+p)
			}
		}
		from = to
	}
	return all
}

// samples returns short texts of all kinds of bytes, and longer ones of parts near the limits.
func samples() []string {
	short := texts([]string{"a", "0", "7", "-", "\"", "#", "\n", " ", "\r", ";", "B"}, 5)
	near := texts([]string{
		strings.Repeat("a", 19), "b", "-", strings.Repeat("0", 3), "123456", "\"", strings.Repeat("~", 59), "'", "# 1", "\n", "\t", "\xe4",
	}, 4)
	return append(short, near...)
}

// P5.1: Tokens, by regular expressions.
func TestTokensByExpressions(t *testing.T) {
	found := map[api.Errno]int{}
	for _, s := range samples() {
		want, at, err := divide(s)
		found[err]++
		if l, line, e := token.Tokens(s); !slices.Equal(l, want) || line != at || e != err {
			t.Fatalf("%q: %v, %d, %d instead of %v, %d, %d", s, l, line, e, want, at, err)
		}
	}
	if found[api.OK] < 1000 || found[api.ErrSyntax] < 1000 || found[api.ErrTooLarge] < 1000 {
		t.Errorf("compared only %v", found)
	}
}

// P5.1: a text that is one token is what IsName, Number and Quote say.
func TestSingleTokens(t *testing.T) {
	for _, s := range samples() {
		if is := namePart.FindString(s) == s && s != "" && len(s) <= 20; token.IsName(s) != is {
			t.Fatalf("IsName(%q)", s)
		}
		l, _, e := token.Tokens(s)
		_, isNumber := token.Number(s)
		if is := e == api.OK && len(l) == 1 && l[0].Kind == api.TokenNumber && l[0].Text == s; isNumber != is {
			t.Fatalf("Number(%q)", s)
		}
		q, e := token.Quote(s)
		if l, line, err := token.Tokens(`"` + s + `"`); e == api.OK {
			if q != `"`+s+`"` || !slices.Equal(l, in(1, quoted(s))) || line != 0 || err != api.OK {
				t.Fatalf("Quote(%q): %q, %v", s, q, l)
			}
		} else if len(l) == 1 && err == api.OK && l[0].Text == s {
			t.Fatalf("Quote(%q): %d", s, e)
		}
	}
}

// pool returns tokens of all kinds, the largest and the smallest ones among them.
func pool() []api.Token {
	l := []api.Token{
		name("a"), name("a-b"), name("u1"), name(strings.Repeat("z", 20)), number("0"), number("10"), number("999999"),
		quoted(""), quoted("# a"), quoted(" "), quoted("\\n'"), quoted(strings.Repeat("~", 60)),
	}
	for _, s := range strings.Split(signs, "") {
		l = append(l, sign(s))
	}
	return l
}

// lists returns all lists of at most two tokens of the pool, and some long ones.
func lists() [][]api.Token {
	all := [][]api.Token{nil, pool(), slices.Repeat(pool(), 60), slices.Repeat([]api.Token{quoted("")}, 6667), slices.Repeat([]api.Token{sign("-")}, 10000)}
	for _, a := range pool() {
		all = append(all, []api.Token{a})
		for _, b := range pool() {
			all = append(all, []api.Token{a, b})
		}
	}
	return all
}

// P5.2: from what Write returns, Tokens leads back to the same tokens, all in line 1.
func TestTokensLeadBack(t *testing.T) {
	for i, l := range lists() {
		s, e := token.Write(in(i-7, l...))
		if e != api.OK {
			t.Fatalf("list %d: %d", i, e)
		}
		back, line, e := token.Tokens(s)
		if !slices.Equal(back, in(1, l...)) || !token.Same(back, l) || line != 0 || e != api.OK {
			t.Fatalf("%q: %v, %d, %d", s, back, line, e)
		}
	}
}

// P5.2: what Tokens finds can be written, and is found again.
func TestWriteLeadsBack(t *testing.T) {
	compared := 0
	for _, s := range samples() {
		l, _, e := token.Tokens(s)
		if e != api.OK {
			continue
		}
		compared++
		w, e := token.Write(l)
		if back, line, err := token.Tokens(w); !token.Same(back, l) || !slices.Equal(back, in(1, l...)) || line != 0 || err != api.OK || e != api.OK {
			t.Fatalf("%q: %q, %v, %d, %d", s, w, back, line, err)
		}
	}
	if compared < 1000 {
		t.Errorf("only %d compared", compared)
	}
}

// P5.2: white space and comments between tokens change nothing but lines.
func TestBlanksChangeOnlyLines(t *testing.T) {
	blanks := []string{" ", "\t", "\r", "\n", "  \r\n\t", "#\n", " # a \"?\xff\n", "#\r;\n\n # #\n "}
	for _, l := range lists() {
		if len(l) > 100 {
			continue
		}
		for i := range blanks {
			var s strings.Builder
			var want []api.Token
			line := 1
			for j, tok := range append(slices.Clone(l), api.Token{}) {
				blank := blanks[(i+j)%len(blanks)]
				s.WriteString(blank)
				line += strings.Count(blank, "\n")
				if j == len(l) {
					break
				}
				one, _ := token.Write([]api.Token{tok})
				s.WriteString(one)
				want = append(want, in(line, tok)...)
			}
			s.WriteString("# the end")
			if found, at, e := token.Tokens(s.String()); !slices.Equal(found, want) || !token.Same(found, l) || at != 0 || e != api.OK {
				t.Fatalf("%q: %v, %d, %d", s.String(), found, at, e)
			}
		}
	}
}

// P5.1: Lines returns parts without line feeds that make up the string.
func TestLinesAreParts(t *testing.T) {
	for _, s := range samples() {
		l := token.Lines(s)
		together := strings.Join(l, "\n")
		if len(l) > 0 && strings.HasSuffix(s, "\n") {
			together += "\n"
		}
		size := strings.Count(s, "\n")
		if s != "" && !strings.HasSuffix(s, "\n") {
			size++
		}
		if together != s || len(l) != size || slices.ContainsFunc(l, func(part string) bool { return strings.Contains(part, "\n") }) {
			t.Fatalf("%q: %q", s, l)
		}
	}
}

// P1: no argument makes a function of this layer panic.
func TestNoPanic(t *testing.T) {
	for _, s := range []string{"", "a", "-", "a-", "\"", "#", "0", "\n", "\x00", "\xff", "\u2013", "\"\xff"} {
		for _, text := range []string{s, strings.Repeat(s, 19999), strings.Repeat(s, 1000000), s + "a-", "a-" + s, s + "\"", s + "#"} {
			token.Tokens(text)
			token.IsName(text)
			token.Number(text)
			token.Quote(text)
			token.Lines(text)
			for _, kind := range []int{math.MinInt, -1, 0, 1, 2, 3, 4, 5, math.MaxInt} {
				l := []api.Token{{Kind: kind, Text: text, Line: math.MaxInt}, {Kind: kind, Text: "a", Line: math.MinInt}}
				token.Write(l)
				token.Same(l, l)
				token.Same(l, nil)
				token.Same(l[1:], l)
			}
		}
	}
}

// A result is new memory: changing it changes no later result.
func TestResultsAreNew(t *testing.T) {
	l, _, _ := token.Tokens("a ;")
	l[0] = api.Token{}
	if again, _, _ := token.Tokens("a ;"); !slices.Equal(again, in(1, name("a"), sign(";"))) {
		t.Errorf("%v", again)
	}
	lines := token.Lines("a\nb")
	lines[0] = ""
	if again := token.Lines("a\nb"); !slices.Equal(again, []string{"a", "b"}) {
		t.Errorf("%q", again)
	}
}
