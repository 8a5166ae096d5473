package pattern_test

import (
	"slices"
	"strings"
	"testing"

	"anceps/api"
	"anceps/pattern"
)

// words returns all strings over an alphabet with at most so many bytes, shorter ones first, then in the order
// of the alphabet.
func words(alphabet string, most int) []string {
	all := []string{""}
	for from := 0; most > 0; most-- {
		to := len(all)
		for _, w := range all[from:to] {
			for i := range len(alphabet) {
				all = append(all, w+alphabet[i:i+1])
			}
		}
		from = to
	}
	return all
}

// strange returns all strings of one byte that is no sign.
func strange() []string {
	var l []string
	for b := range 256 {
		if s := string([]byte{byte(b)}); !strings.Contains("u-x", s) {
			l = append(l, s)
		}
	}
	return l
}

var (
	full    = strings.Repeat("u-x", 20)    // 60 signs
	fullEnd = strings.Repeat("u.-.x.", 20) // 60 signs with their points
	closed  = strings.Repeat("u-.", 30)    // 60 signs without x
)

// P4.1: Valid takes at most 60 signs, and nothing else.
func TestValid(t *testing.T) {
	for _, c := range []struct {
		p string
		e api.Errno
	}{
		{"", api.OK}, {"u", api.OK}, {"-", api.OK}, {"x", api.OK}, {"-uu-x", api.OK},
		{full, api.OK}, {strings.Repeat("u", 60), api.OK}, {strings.Repeat("-", 60), api.OK}, {strings.Repeat("x", 60), api.OK},
		{full + "u", api.ErrTooLarge}, {strings.Repeat("x", 61), api.ErrTooLarge}, {full + "?", api.ErrTooLarge},
		{"?" + full, api.ErrTooLarge}, {strings.Repeat("?", 61), api.ErrTooLarge}, {strings.Repeat("u.", 31), api.ErrTooLarge},
		{strings.Repeat("?", 60), api.ErrSyntax}, {full[:59] + "?", api.ErrSyntax},
		{"u.", api.ErrSyntax}, {"-.u", api.ErrSyntax}, {".", api.ErrSyntax}, {"U", api.ErrSyntax}, {"X", api.ErrSyntax},
		{" ", api.ErrSyntax}, {"u -", api.ErrSyntax}, {"u\n", api.ErrSyntax}, {"\u2013", api.ErrSyntax}, {"u\u00d7", api.ErrSyntax},
	} {
		if e := pattern.Valid(c.p); e != c.e {
			t.Errorf("%q: %d", c.p, e)
		}
	}
	for _, s := range strange() {
		for _, p := range []string{s, s + "u-x", "u-" + s + "x", "u-x" + s, full[:59] + s} {
			if e := pattern.Valid(p); e != api.ErrSyntax {
				t.Errorf("%q: %d", p, e)
			}
		}
	}
}

type markedCase struct {
	p string
	e api.Errno
}

// wrongMarked returns strings that are no marked patterns, with their errors.
func wrongMarked() []markedCase {
	l := []markedCase{
		{fullEnd + "u", api.ErrTooLarge}, {fullEnd + ".", api.ErrTooLarge}, {"." + fullEnd, api.ErrTooLarge},
		{fullEnd + "?", api.ErrTooLarge}, {strings.Repeat("?", 121), api.ErrTooLarge}, {strings.Repeat(".", 121), api.ErrTooLarge},
		{strings.Repeat("u", 121), api.ErrTooLarge}, {strings.Repeat("u", 61), api.ErrTooLarge}, {strings.Repeat("-", 120), api.ErrTooLarge},
		{full + "x", api.ErrTooLarge}, {full + "-.", api.ErrTooLarge}, {closed + "u", api.ErrTooLarge}, {closed + "u.", api.ErrTooLarge},
		// What is written wrongly comes before what has too many signs.
		{full + "u?", api.ErrSyntax}, {"?" + full + "u", api.ErrSyntax}, {full + "u..", api.ErrSyntax}, {"." + full + "u", api.ErrSyntax},
		{strings.Repeat("u", 119) + "?", api.ErrSyntax}, {"." + strings.Repeat("u", 119), api.ErrSyntax},
		{strings.Repeat("u", 118) + "..", api.ErrSyntax}, {strings.Repeat("u", 60) + strings.Repeat(".", 60), api.ErrSyntax},
		{strings.Repeat("?", 120), api.ErrSyntax}, {strings.Repeat(".", 120), api.ErrSyntax}, {strings.Repeat(".u", 60), api.ErrSyntax},
		{".", api.ErrSyntax}, {".u", api.ErrSyntax}, {"..", api.ErrSyntax}, {"u..", api.ErrSyntax}, {"-..u", api.ErrSyntax},
		{"x..", api.ErrSyntax}, {"u.-..", api.ErrSyntax}, {"U", api.ErrSyntax}, {"X.", api.ErrSyntax}, {"u .", api.ErrSyntax},
		{"u ", api.ErrSyntax}, {" u", api.ErrSyntax}, {"u,", api.ErrSyntax}, {"u.\n", api.ErrSyntax}, {"\u2013", api.ErrSyntax}, {"?.", api.ErrSyntax},
	}
	for _, s := range strange() {
		if s == "." {
			continue
		}
		for _, p := range []string{s, s + "u.", "u." + s, "u." + s + "-.", "u" + s, s + ".", closed[:89] + s} {
			l = append(l, markedCase{p, api.ErrSyntax})
		}
	}
	return l
}

// P4.1: Marked takes signs with a point behind each, and Letters and Plain have its error.
func TestMarked(t *testing.T) {
	for _, p := range []string{"", "u", "u.", "-", "-.", "x", "x.", "-.uu.", "u-x", "u.-.x.", "-u.x-.", full, fullEnd, closed, full + ".", closed[:89]} {
		if e := pattern.Marked(p); e != api.OK {
			t.Errorf("%q: %d", p, e)
		}
	}
	for _, c := range wrongMarked() {
		if e := pattern.Marked(c.p); e != c.e {
			t.Errorf("Marked(%q): %d", c.p, e)
		}
		if l, e := pattern.Letters(c.p); len(l) != 0 || e != c.e {
			t.Errorf("Letters(%q): %v, %d", c.p, l, e)
		}
		if s, e := pattern.Plain(c.p); s != "" || e != c.e {
			t.Errorf("Plain(%q): %q, %d", c.p, s, e)
		}
	}
}

// taken returns whether a string is a marked pattern, by taking its signs away one by one.
func taken(p string) bool {
	for p != "" {
		if !strings.Contains("u-x", p[:1]) {
			return false
		}
		p = strings.TrimPrefix(p[1:], ".")
	}
	return true
}

// P4.1: Marked accepts exactly the short marked patterns, and Valid those without a point.
func TestShortStrings(t *testing.T) {
	for _, p := range words("u-x.?", 5) {
		if is := pattern.Marked(p); (is == api.OK) != taken(p) || is != api.OK && is != api.ErrSyntax {
			t.Errorf("Marked(%q): %d", p, is)
		}
		if is := pattern.Valid(p); (is == api.OK) != (taken(p) && !strings.Contains(p, ".")) || is != api.OK && is != api.ErrSyntax {
			t.Errorf("Valid(%q): %d", p, is)
		}
	}
}

// P4.1: the letters of a marked pattern without x.
func TestLetters(t *testing.T) {
	for _, c := range []struct {
		p    string
		want []int
		e    api.Errno
	}{
		{"", nil, api.OK}, {"u", []int{0}, api.OK}, {"-", []int{1}, api.OK}, {"u.", []int{2}, api.OK}, {"-.", []int{3}, api.OK},
		{"-.uu.", []int{3, 0, 2}, api.OK}, {"u-u.-.", []int{0, 1, 2, 3}, api.OK}, {"-uu-x", nil, api.ErrOpen}, {"x", nil, api.ErrOpen},
		{"x.", nil, api.ErrOpen}, {"xu-", nil, api.ErrOpen}, {"u.x.-", nil, api.ErrOpen}, {full, nil, api.ErrOpen}, {fullEnd, nil, api.ErrOpen},
		{closed, slices.Repeat([]int{0, 3}, 30), api.OK}, {strings.Repeat("u.", 60), slices.Repeat([]int{2}, 60), api.OK},
		{strings.Repeat("-", 60), slices.Repeat([]int{1}, 60), api.OK},
		{"x?", nil, api.ErrSyntax}, {"x..", nil, api.ErrSyntax}, {strings.Repeat("x", 61), nil, api.ErrTooLarge},
		{strings.Repeat("x", 121), nil, api.ErrTooLarge},
	} {
		if l, e := pattern.Letters(c.p); !slices.Equal(l, c.want) || e != c.e {
			t.Errorf("%q: %v, %d", c.p, l, e)
		}
	}
}

// P4.1: the marked pattern with letters.
func TestText(t *testing.T) {
	sixty := slices.Repeat([]int{0, 3}, 30)
	for i, c := range []struct {
		letters []int
		want    string
		e       api.Errno
	}{
		{nil, "", api.OK}, {[]int{}, "", api.OK}, {[]int{0}, "u", api.OK}, {[]int{1}, "-", api.OK}, {[]int{2}, "u.", api.OK},
		{[]int{3}, "-.", api.OK}, {[]int{3, 0, 2}, "-.uu.", api.OK}, {[]int{0, 1, 2, 3}, "u-u.-.", api.OK}, {sixty, closed, api.OK},
		{slices.Repeat([]int{3}, 60), strings.Repeat("-.", 60), api.OK},
		{append(slices.Clone(sixty), 0), "", api.ErrTooLarge}, {slices.Repeat([]int{4}, 61), "", api.ErrTooLarge},
		{append([]int{-1}, sixty...), "", api.ErrTooLarge}, {make([]int, 100000), "", api.ErrTooLarge},
		{[]int{4}, "", api.ErrRange}, {[]int{-1}, "", api.ErrRange}, {[]int{0, 1, 2, 3, 4}, "", api.ErrRange}, {[]int{-1, 0}, "", api.ErrRange},
		{[]int{1, 256, 1}, "", api.ErrRange}, {[]int{1 << 32}, "", api.ErrRange}, {[]int{-1 << 63}, "", api.ErrRange}, {[]int{1<<63 - 1}, "", api.ErrRange},
		{append(slices.Clone(sixty[:59]), 4), "", api.ErrRange},
	} {
		kept := slices.Clone(c.letters)
		if s, e := pattern.Text(c.letters); s != c.want || e != c.e {
			t.Errorf("row %d: %q, %d", i, s, e)
		}
		if !slices.Equal(c.letters, kept) {
			t.Errorf("row %d: the letters were changed", i)
		}
	}
}

// P4.1: a marked pattern without its points.
func TestPlain(t *testing.T) {
	for _, c := range [][2]string{
		{"", ""}, {"u", "u"}, {"u.", "u"}, {"-.uu.", "-uu"}, {"x.", "x"}, {"u.-.x.", "u-x"}, {"-ux", "-ux"}, {"-u.x-.", "-ux-"},
		{full, full}, {fullEnd, full}, {closed, strings.Repeat("u-", 30)},
	} {
		if s, e := pattern.Plain(c[0]); s != c[1] || e != api.OK {
			t.Errorf("%q: %q, %d", c[0], s, e)
		}
	}
}

// P4.1: the order of patterns, with other bytes behind the signs.
func TestCompare(t *testing.T) {
	ascending := []string{"", "u", "-", "x"}
	ascending = append(ascending, strange()...)
	ascending = append(ascending, "uu", "u-", "ux", "u\x00", "u.", "ut", "uv", "u\xff", "-u", "--", "-x", "xu", "x-", "xx", "x\x00",
		"\x00u", "\x00x", "\x00\x00", ".u", ".x", "..", "tu", "\xffu", "\xff\xfe", "\xff\xff", "uuu", "uux", "xuu", "...",
		full, full[:59]+"\x00", "x"+full[1:], full+"u", full+"x", strings.Repeat("u", 1000), strings.Repeat("u", 999)+"-")
	for i, p := range ascending {
		for j, q := range ascending {
			want := 0
			if i < j {
				want = -1
			} else if i > j {
				want = 1
			}
			if order := pattern.Compare(p, q); order != want {
				t.Errorf("%q, %q: %d", p, q, order)
			}
		}
	}
}
