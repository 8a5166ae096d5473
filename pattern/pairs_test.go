package pattern_test

import (
	"slices"
	"strings"
	"testing"

	"anceps/api"
	"anceps/pattern"
)

// common returns what both signs allow: "" if nothing.
func common(a, b string) string {
	switch {
	case a == "x":
		return b
	case b == "x" || a == b:
		return a
	}
	return ""
}

// meet returns what Meet is to return for two patterns of one length, and whether they match.
func meet(p, q string) (string, bool) {
	both := ""
	for i := range len(p) {
		c := common(p[i:i+1], q[i:i+1])
		if c == "" {
			return "", false
		}
		both += c
	}
	return both, true
}

// join returns what Join is to return for two patterns of one length.
func join(p, q string) string {
	all := ""
	for i := range len(p) {
		if p[i] == q[i] {
			all += p[i : i+1]
		} else {
			all += "x"
		}
	}
	return all
}

// P4.1: Match, Meet and Join of all short patterns.
func TestShortPairs(t *testing.T) {
	patterns := words("u-x", 4)
	for _, p := range patterns {
		for _, q := range patterns {
			wantMeet, wantJoin, meetError, joinError := "", "", api.ErrRange, api.ErrRange
			if len(p) == len(q) {
				wantJoin, joinError = join(p, q), api.OK
				meetError = api.ErrConflict
				if m, ok := meet(p, q); ok {
					wantMeet, meetError = m, api.OK
				}
			}
			if s, e := pattern.Meet(p, q); s != wantMeet || e != meetError {
				t.Fatalf("Meet(%q, %q): %q, %d", p, q, s, e)
			}
			if s, e := pattern.Join(p, q); s != wantJoin || e != joinError {
				t.Fatalf("Join(%q, %q): %q, %d", p, q, s, e)
			}
			if is := pattern.Match(p, q); is != (meetError == api.OK) {
				t.Fatalf("Match(%q, %q): %v", p, q, is)
			}
		}
	}
}

// P4.1: examples, the longest patterns, and the order of the errors of pairs.
func TestPairs(t *testing.T) {
	u, h, x := strings.Repeat("u", 60), strings.Repeat("-", 60), strings.Repeat("x", 60)
	for _, c := range []struct {
		p, q, meet string
		meetError  api.Errno
		join       string
		joinError  api.Errno
	}{
		{"x-", "ux", "u-", api.OK, "xx", api.OK},
		{"", "", "", api.OK, "", api.OK},
		{"x", "x", "x", api.OK, "x", api.OK},
		{"u-x", "u-x", "u-x", api.OK, "u-x", api.OK},
		{"u", "-", "", api.ErrConflict, "x", api.OK},
		{x, full, full, api.OK, x, api.OK},
		{full, full, full, api.OK, full, api.OK},
		{u, h, "", api.ErrConflict, x, api.OK},
		{u, u[:59] + "-", "", api.ErrConflict, u[:59] + "x", api.OK},
		{"-" + u[:59], u, "", api.ErrConflict, "x" + u[:59], api.OK},
		{"u", "uu", "", api.ErrRange, "", api.ErrRange},
		{"u", "-u", "", api.ErrRange, "", api.ErrRange},
		{"u-", "-", "", api.ErrRange, "", api.ErrRange},
		{"", "x", "", api.ErrRange, "", api.ErrRange},
		{x, x[:59], "", api.ErrRange, "", api.ErrRange},
		{"?", "-", "", api.ErrSyntax, "", api.ErrSyntax},
		{"-", "?", "", api.ErrSyntax, "", api.ErrSyntax},
		{"x", "?", "", api.ErrSyntax, "", api.ErrSyntax},
		{"?", "?", "", api.ErrSyntax, "", api.ErrSyntax},
		{"u.", "u.", "", api.ErrSyntax, "", api.ErrSyntax},
		{"u.", "uu", "", api.ErrSyntax, "", api.ErrSyntax},
		{"u?", "-", "", api.ErrSyntax, "", api.ErrSyntax},
		{"-u", "?", "", api.ErrSyntax, "", api.ErrSyntax},
		{"-u", "u?", "", api.ErrSyntax, "", api.ErrSyntax},
		{x + "x", x + "x", "", api.ErrTooLarge, "", api.ErrTooLarge},
		{"u", x + "x", "", api.ErrTooLarge, "", api.ErrTooLarge},
		{x + "x", "u", "", api.ErrTooLarge, "", api.ErrTooLarge},
		{"?", x + "x", "", api.ErrSyntax, "", api.ErrSyntax},
		{x + "x", "?", "", api.ErrTooLarge, "", api.ErrTooLarge},
	} {
		if s, e := pattern.Meet(c.p, c.q); s != c.meet || e != c.meetError {
			t.Errorf("Meet(%q, %q): %q, %d", c.p, c.q, s, e)
		}
		if s, e := pattern.Join(c.p, c.q); s != c.join || e != c.joinError {
			t.Errorf("Join(%q, %q): %q, %d", c.p, c.q, s, e)
		}
		if is := pattern.Match(c.p, c.q); is != (c.meetError == api.OK) {
			t.Errorf("Match(%q, %q): %v", c.p, c.q, is)
		}
	}
}

// plainLike returns the plain patterns that match a pattern, in their order, chosen among all.
func plainLike(p string) []string {
	var l []string
	for _, q := range words("u-", len(p)) {
		if len(q) != len(p) {
			continue
		}
		if _, ok := meet(p, q); ok {
			l = append(l, q)
		}
	}
	return l
}

func morae(p string) int {
	return len(p) + strings.Count(p, "-")
}

// P4.1: Expand and Morae of all short patterns.
func TestShortExpansions(t *testing.T) {
	for _, p := range words("u-x", 6) {
		want := plainLike(p)
		if l, e := pattern.Expand(p); !slices.Equal(l, want) || e != api.OK {
			t.Fatalf("Expand(%q): %q, %d", p, l, e)
		}
		least, greatest, e := pattern.Morae(p)
		if least != morae(want[0]) || greatest != morae(want[len(want)-1]) || e != api.OK {
			t.Fatalf("Morae(%q): %d, %d, %d", p, least, greatest, e)
		}
	}
}

// P4.1: the example, ten x, eleven x, and invalid patterns.
func TestExpand(t *testing.T) {
	if l, e := pattern.Expand("x-x"); !slices.Equal(l, []string{"u-u", "u--", "--u", "---"}) || e != api.OK {
		t.Errorf("x-x: %q, %d", l, e)
	}
	ten := strings.Repeat("x", 10)
	if l, e := pattern.Expand(ten); !slices.Equal(l, plainLike(ten)) || len(l) != 1024 || e != api.OK {
		t.Errorf("ten x: %d patterns, %d", len(l), e)
	}
	spread := strings.Repeat("u-x-uu", 10)
	l, e := pattern.Expand(spread)
	if len(l) != 1024 || e != api.OK {
		t.Fatalf("ten x among 60 signs: %d patterns, %d", len(l), e)
	}
	for i, p := range l {
		if _, ok := meet(spread, p); !ok || strings.Contains(p, "x") || len(p) != 60 {
			t.Fatalf("%q is no expansion", p)
		}
		// u comes before -, in the bytes it is the other way round.
		if i > 0 && l[i-1] <= p {
			t.Fatalf("%q comes before %q", l[i-1], p)
		}
	}
	for _, c := range []markedCase{
		{ten + "x", api.ErrTooLarge}, {full, api.ErrTooLarge}, {strings.Repeat("xu", 11), api.ErrTooLarge}, {full + "x", api.ErrTooLarge},
		{ten + "x?", api.ErrSyntax}, {"?" + full[1:], api.ErrSyntax}, {"x.", api.ErrSyntax}, {"X", api.ErrSyntax},
		{strings.Repeat("u", 61), api.ErrTooLarge}, {strings.Repeat("?", 61), api.ErrTooLarge},
	} {
		if l, e := pattern.Expand(c.p); len(l) != 0 || e != c.e {
			t.Errorf("%q: %q, %d", c.p, l, e)
		}
	}
	longest := strings.Repeat("u-", 30)
	if l, e := pattern.Expand(longest); !slices.Equal(l, []string{longest}) || e != api.OK {
		t.Errorf("60 signs: %q, %d", l, e)
	}
}

// P4.1: sums of morae, also where there are more than ten x.
func TestMorae(t *testing.T) {
	for _, c := range []struct {
		p               string
		least, greatest int
		e               api.Errno
	}{
		{"x-x", 4, 6, api.OK}, {"", 0, 0, api.OK}, {"u", 1, 1, api.OK}, {"-", 2, 2, api.OK}, {"x", 1, 2, api.OK}, {"-uu", 4, 4, api.OK},
		{strings.Repeat("x", 60), 60, 120, api.OK}, {strings.Repeat("-", 60), 120, 120, api.OK}, {strings.Repeat("u", 60), 60, 60, api.OK},
		{full, 80, 100, api.OK}, {strings.Repeat("x", 11), 11, 22, api.OK},
		{strings.Repeat("x", 61), 0, 0, api.ErrTooLarge}, {strings.Repeat("?", 61), 0, 0, api.ErrTooLarge},
		{"-?", 0, 0, api.ErrSyntax}, {"u.", 0, 0, api.ErrSyntax}, {"U", 0, 0, api.ErrSyntax},
	} {
		least, greatest, e := pattern.Morae(c.p)
		if least != c.least || greatest != c.greatest || e != c.e {
			t.Errorf("%q: %d, %d, %d", c.p, least, greatest, e)
		}
	}
}
