package text_test

import (
	"math"
	"slices"
	"strings"
	"testing"

	"anceps/api"
	"anceps/text"
)

// The letters of a line, written out, so that the tests do not share the rule of the program.
const letters = "abcdefghijklmnopqrstuvwxyz" + "ABCDEFGHIJKLMNOPQRSTUVWXYZ" + "0123456789" + "_^'()/\\=+|*" + "#$%&@`~"

const punctuation = " .,;:!?\"-[]<>{}"

var (
	fullLine = strings.Repeat("x", 120)
	longLine = strings.Repeat("x", 121)
)

// samples returns all strings of at most the given length over a few bytes, and some longer ones, valid or not.
func samples(length int) []string {
	all := []string{""}
	for from := 0; length > 0; length-- {
		to := len(all)
		for _, s := range all[from:to] {
			for _, b := range []string{"a", "A", "z", "_", " ", "-", "\n", "\x7f", "\xe9"} {
				all = append(all, s+b)
			}
		}
		from = to
	}
	return append(all,
		"Arma virumque cano, Troiae", "arma VIRUMQUE; cano Troiae!", "arma virum que cano Troiae",
		fullLine, longLine, longLine+"\n", strings.Repeat("a ", 60), strings.Repeat("a ", 60)+"a",
		strings.Repeat(" ", 120), strings.Repeat(" ", 121), strings.Repeat("\x00", 121))
}

func TestPartsOfLines(t *testing.T) {
	if len(letters)+len(punctuation) != 126-32+1 {
		t.Fatal("a byte of lines is neither a letter nor punctuation, or both")
	}
}

// P1.1: every byte, alone and between two letters.
func TestBytes(t *testing.T) {
	for b := range 256 {
		s := string([]byte{byte(b)})
		valid, words, around, joined := api.ErrSyntax, 0, 0, api.ErrSyntax
		if strings.Contains(letters, s) {
			valid, words, around, joined = api.OK, 1, 1, api.OK
		}
		if strings.Contains(punctuation, s) {
			valid, words, around = api.OK, 0, 2
		}
		if e := text.Valid(s); e != valid {
			t.Errorf("Valid, byte %d: %d", b, e)
		}
		if l, e := text.Words(s); len(l) != words || e != valid {
			t.Errorf("Words, byte %d: %v, %d", b, l, e)
		}
		if l, e := text.Words("a" + s + "b"); len(l) != around || e != valid {
			t.Errorf("Words, byte %d between letters: %v, %d", b, l, e)
		}
		if _, e := text.Join([]string{s}); e != joined {
			t.Errorf("Join, byte %d: %d", b, e)
		}
		folded := s
		if i := strings.Index("ABCDEFGHIJKLMNOPQRSTUVWXYZ", s); i >= 0 {
			folded = letters[i : i+1]
		}
		if f := text.Fold(s); f != folded {
			t.Errorf("Fold, byte %d: %q", b, f)
		}
	}
}

// P1.1
func TestValid(t *testing.T) {
	for i, c := range []struct {
		line string
		want api.Errno
	}{
		{"", api.OK},
		{" ~", api.OK},
		{fullLine, api.OK},
		{strings.Repeat(" ", 120), api.OK},
		{longLine, api.ErrTooLarge},
		{strings.Repeat(" ", 121), api.ErrTooLarge},
		{strings.Repeat("\x01", 120), api.ErrSyntax},
		{strings.Repeat("\x01", 121), api.ErrTooLarge},
		{"arma\n", api.ErrSyntax},
		{"\tarma", api.ErrSyntax},
		{"arma\x00virum", api.ErrSyntax},
		{strings.Repeat("x", 119) + "\x7f", api.ErrSyntax},
		{"\xc4\x80", api.ErrSyntax},
	} {
		if e := text.Valid(c.line); e != c.want {
			t.Errorf("row %d: %d", i, e)
		}
		l, e := text.Words(c.line)
		if e != c.want || e != api.OK && len(l) != 0 {
			t.Errorf("Words, row %d: %v, %d", i, l, e)
		}
		word := c.want
		if word == api.OK {
			word = api.ErrRange
		}
		if w, e := text.Word(c.line, 999); w != "" || e != word {
			t.Errorf("Word, row %d: %q, %d", i, w, e)
		}
	}
}

// P1.1
func TestWords(t *testing.T) {
	for i, c := range []struct {
		line string
		want []api.Span
	}{
		{"", nil},
		{" .,;:!?\"-[]<>{}", nil},
		{"a", []api.Span{{From: 0, To: 1}}},
		{" a", []api.Span{{From: 1, To: 2}}},
		{"a ", []api.Span{{From: 0, To: 1}}},
		{"a  b", []api.Span{{From: 0, To: 1}, {From: 3, To: 4}}},
		{"Arma virumque cano, Troiae", []api.Span{{From: 0, To: 4}, {From: 5, To: 13}, {From: 14, To: 18}, {From: 20, To: 26}}},
		{"[ar]ma <vi>rum-que {cano}", []api.Span{{From: 1, To: 3}, {From: 4, To: 6}, {From: 8, To: 10}, {From: 11, To: 14}, {From: 15, To: 18}, {From: 20, To: 24}}},
		{"me_nin a'eide 3 (thea)", []api.Span{{From: 0, To: 6}, {From: 7, To: 13}, {From: 14, To: 15}, {From: 16, To: 22}}},
		{fullLine, []api.Span{{From: 0, To: 120}}},
		{strings.Repeat(" ", 119) + "x", []api.Span{{From: 119, To: 120}}},
	} {
		if l, e := text.Words(c.line); !slices.Equal(l, c.want) || e != api.OK {
			t.Errorf("row %d: %v, %d", i, l, e)
		}
	}
	if l, e := text.Words(strings.Repeat("a ", 60)); len(l) != 60 || e != api.OK {
		t.Errorf("a line with more words than MaxWords: %d, %d", len(l), e)
	}
}

// P1.1
func TestWord(t *testing.T) {
	line := "\"Arma\" VIRUMque cano, TROIAE_"
	for i, c := range []struct {
		line string
		at   int
		want string
		e    api.Errno
	}{
		{line, 0, "arma", api.OK},
		{line, 1, "virumque", api.OK},
		{line, 2, "cano", api.OK},
		{line, 3, "troiae_", api.OK},
		{line, 4, "", api.ErrRange},
		{line, -1, "", api.ErrRange},
		{line, math.MaxInt, "", api.ErrRange},
		{line, math.MinInt, "", api.ErrRange},
		{"", 0, "", api.ErrRange},
		{" - ", 0, "", api.ErrRange},
		{"arma\n", 0, "", api.ErrSyntax},
		{"arma\n", -1, "", api.ErrSyntax},
		{longLine, 0, "", api.ErrTooLarge},
		{longLine, 1, "", api.ErrTooLarge},
	} {
		if w, e := text.Word(c.line, c.at); w != c.want || e != c.e {
			t.Errorf("row %d: %q, %d", i, w, e)
		}
	}
}

// P1.1
func TestFold(t *testing.T) {
	for i, c := range [][2]string{
		{"", ""},
		{"arma", "arma"},
		{"ARMA Virumque", "arma virumque"},
		{"@AZ[`az{", "@az[`az{"},
		{"\xc3\x84B\xff\x00\n", "\xc3\x84b\xff\x00\n"},
		{strings.Repeat("A", 1000), strings.Repeat("a", 1000)},
	} {
		if s := text.Fold(c[0]); s != c[1] {
			t.Errorf("row %d: %q", i, s)
		}
	}
}

// P1.1
func TestJoin(t *testing.T) {
	half := strings.Repeat("x", 60)
	for i, c := range []struct {
		words []string
		want  string
		e     api.Errno
	}{
		{nil, "", api.OK},
		{[]string{}, "", api.OK},
		{[]string{"arma"}, "arma", api.OK},
		{[]string{"Arma", "virumque", "cano_"}, "Arma virumque cano_", api.OK},
		{[]string{fullLine}, fullLine, api.OK},
		{[]string{longLine}, "", api.ErrTooLarge},
		{[]string{half, half[1:]}, half + " " + half[1:], api.OK},
		{[]string{half, half}, "", api.ErrTooLarge},
		{[]string{""}, "", api.ErrEmpty},
		{[]string{"a", ""}, "", api.ErrEmpty},
		{[]string{"a b"}, "", api.ErrSyntax},
		{[]string{"a,"}, "", api.ErrSyntax},
		{[]string{"-a"}, "", api.ErrSyntax},
		{[]string{"a\n"}, "", api.ErrSyntax},
		{[]string{"\x80"}, "", api.ErrSyntax},
		{[]string{"", "a b"}, "", api.ErrEmpty},
		{[]string{"a b", ""}, "", api.ErrSyntax},
		{[]string{longLine, ""}, "", api.ErrEmpty},
		{[]string{longLine, "b "}, "", api.ErrSyntax},
		{make([]string, 200), "", api.ErrEmpty},
		{slices.Repeat([]string{"a"}, 60), strings.Repeat("a ", 59) + "a", api.OK},
		{slices.Repeat([]string{"a"}, 61), "", api.ErrTooLarge},
	} {
		if s, e := text.Join(c.words); s != c.want || e != c.e {
			t.Errorf("row %d: %q, %d", i, s, e)
		}
	}
}

// P1.1
func TestLines(t *testing.T) {
	for i, c := range []struct {
		s    string
		want []string
		e    api.Errno
	}{
		{"", nil, api.OK},
		{"\n", []string{""}, api.OK},
		{"\n\n", []string{"", ""}, api.OK},
		{"Arma, virum\n", []string{"Arma, virum"}, api.OK},
		{"arma\n\n cano \n", []string{"arma", "", " cano "}, api.OK},
		{strings.Repeat("\n", 400), make([]string, 400), api.OK},
		{fullLine + "\n" + fullLine + "\n", []string{fullLine, fullLine}, api.OK},
		{"arma", nil, api.ErrSyntax},
		{"arma\ncano", nil, api.ErrSyntax},
		{"\narma", nil, api.ErrSyntax},
		{longLine, nil, api.ErrSyntax},
		{strings.Repeat("\n", 401) + "a", nil, api.ErrSyntax},
		{strings.Repeat("\n", 401), nil, api.ErrTooLarge},
		{"\x01\n" + strings.Repeat("\n", 400), nil, api.ErrTooLarge},
		{"a\r\n", nil, api.ErrSyntax},
		{longLine + "\n", nil, api.ErrTooLarge},
		{"a\n\x80\n" + longLine + "\n", nil, api.ErrSyntax},
		{"a\n" + longLine + "\n\x80\n", nil, api.ErrTooLarge},
	} {
		if l, e := text.Lines(c.s); !slices.Equal(l, c.want) || e != c.e {
			t.Errorf("row %d: %q, %d", i, l, e)
		}
	}
}

// P1.1
func TestText(t *testing.T) {
	for i, c := range []struct {
		lines []string
		want  string
		e     api.Errno
	}{
		{nil, "", api.OK},
		{[]string{}, "", api.OK},
		{[]string{""}, "\n", api.OK},
		{[]string{"Arma, virum"}, "Arma, virum\n", api.OK},
		{[]string{"arma", "", " cano "}, "arma\n\n cano \n", api.OK},
		{[]string{fullLine}, fullLine + "\n", api.OK},
		{make([]string, 400), strings.Repeat("\n", 400), api.OK},
		{make([]string, 401), "", api.ErrTooLarge},
		{append([]string{"\n"}, make([]string, 400)...), "", api.ErrTooLarge},
		{[]string{"a", "b\n"}, "", api.ErrSyntax},
		{[]string{"a", longLine}, "", api.ErrTooLarge},
		{[]string{"\x7f", longLine}, "", api.ErrSyntax},
		{[]string{longLine, "\x7f"}, "", api.ErrTooLarge},
	} {
		if s, e := text.Text(c.lines); s != c.want || e != c.e {
			t.Errorf("row %d: %q, %d", i, s, e)
		}
	}
}

// P1.1
func TestSame(t *testing.T) {
	for i, c := range []struct {
		a, b string
		want bool
	}{
		{"", "", true},
		{"", " .-", true},
		{"", "a", false},
		{"Arma virumque cano, Troiae", "arma VIRUMQUE; cano Troiae!", true},
		{"Arma virumque cano, Troiae", "arma virum que cano Troiae", false},
		{"Arma virumque cano, Troiae", "arma virumque cano", false},
		{"arma cano", "cano arma", false},
		{"arma cano", "armacano", false},
		{"arma", "armA_", false},
		{"arma", "arme", false},
		{"a[b", "a`b", false},
		{fullLine, strings.Repeat("X", 120), true},
		{longLine, longLine, false},
		{"\x80", "\x80", false},
		{"a", "a\n", false},
		{"a\n", "a", false},
	} {
		if is := text.Same(c.a, c.b); is != c.want {
			t.Errorf("row %d: %v", i, is)
		}
	}
}
