package pattern_test

import (
	"math"
	"slices"
	"strings"
	"testing"

	"anceps/api"
	"anceps/pattern"
)

// P4.2: Text leads back from the letters of a marked pattern.
func TestTextLeadsBack(t *testing.T) {
	compared := 0
	long := []string{closed, closed[:89], "-." + closed[:88], strings.Repeat("u.", 60), strings.Repeat("-.u", 30)}
	for _, p := range append(words("u-.", 8), long...) {
		letters, e := pattern.Letters(p)
		if e != api.OK {
			continue
		}
		compared++
		if back, e := pattern.Text(letters); back != p || e != api.OK {
			t.Fatalf("%q: %v, %q, %d", p, letters, back, e)
		}
	}
	if compared < 1000 {
		t.Errorf("only %d compared", compared)
	}
}

// P4.2: Letters leads back from the result of Text, which is a marked pattern.
func TestLettersLeadBack(t *testing.T) {
	lists := [][]int{slices.Repeat([]int{0, 1, 2, 3}, 15), slices.Repeat([]int{3, 2, 1}, 20)}
	for _, w := range words("\x00\x01\x02\x03", 5) {
		var letters []int
		for i := range len(w) {
			letters = append(letters, int(w[i]))
		}
		lists = append(lists, letters)
	}
	for _, letters := range lists {
		p, e := pattern.Text(letters)
		if e != api.OK || pattern.Marked(p) != api.OK {
			t.Fatalf("%v: %q, %d", letters, p, e)
		}
		if back, e := pattern.Letters(p); !slices.Equal(back, letters) || e != api.OK {
			t.Fatalf("%v: %q, %v, %d", letters, p, back, e)
		}
	}
}

// P4.2: Meet and Join are commutative, and so is Match.
func TestCommutative(t *testing.T) {
	for _, p := range words("u-x", 4) {
		for _, q := range words("u-x", 4) {
			m, e := pattern.Meet(p, q)
			if m2, e2 := pattern.Meet(q, p); m != m2 || e != e2 {
				t.Fatalf("Meet of %q and %q: %q, %d and %q, %d", p, q, m, e, m2, e2)
			}
			j, e := pattern.Join(p, q)
			if j2, e2 := pattern.Join(q, p); j != j2 || e != e2 {
				t.Fatalf("Join of %q and %q: %q, %d and %q, %d", p, q, j, e, j2, e2)
			}
			if pattern.Match(p, q) != pattern.Match(q, p) {
				t.Fatalf("Match of %q and %q", p, q)
			}
		}
	}
}

// P4.2: Meet and Join absorb one another.
func TestAbsorbing(t *testing.T) {
	for _, p := range words("u-x", 4) {
		for _, q := range words("u-x", 4) {
			if j, e := pattern.Join(p, q); e == api.OK {
				if back, e := pattern.Meet(p, j); back != p || e != api.OK {
					t.Fatalf("%q, %q: Join %q, then Meet %q, %d", p, q, j, back, e)
				}
			}
			if m, e := pattern.Meet(p, q); e == api.OK {
				if back, e := pattern.Join(p, m); back != p || e != api.OK {
					t.Fatalf("%q, %q: Meet %q, then Join %q, %d", p, q, m, back, e)
				}
			}
		}
	}
}

// P4.2: a plain pattern matches what two patterns have in common exactly if it matches both.
func TestPlainPatternsOfMeet(t *testing.T) {
	for size := range 4 {
		for _, p := range words("u-x", size) {
			for _, q := range words("u-x", size) {
				m, e := pattern.Meet(p, q)
				for _, r := range words("u-", size) {
					both := pattern.Match(r, p) && pattern.Match(r, q)
					if both != (e == api.OK && pattern.Match(r, m)) {
						t.Fatalf("%q, %q, %q: %v", p, q, r, both)
					}
				}
			}
		}
	}
}

// P4.1: a Join allows what one of both allows, and each other pattern that does allows what it allows.
func TestJoinIsLeast(t *testing.T) {
	for size := range 4 {
		patterns := words("u-x", size)
		for _, p := range patterns {
			for _, q := range patterns {
				j, e := pattern.Join(p, q)
				if e != api.OK {
					continue
				}
				for _, r := range patterns {
					if allowsAll(r, p) && allowsAll(r, q) != allowsAll(r, j) {
						t.Fatalf("%q, %q: Join %q, but %q", p, q, j, r)
					}
				}
				if !allowsAll(j, p) || !allowsAll(j, q) {
					t.Fatalf("%q, %q: Join %q", p, q, j)
				}
			}
		}
	}
}

// allowsAll reports whether each plain pattern that matches p matches r.
func allowsAll(r, p string) bool {
	list, _ := pattern.Expand(p)
	return !slices.ContainsFunc(list, func(q string) bool { return !pattern.Match(r, q) })
}

// P4.2: Compare is a total order of all strings.
func TestTotalOrder(t *testing.T) {
	list := append(words("u-x.", 2), words("\x00u\x7f\x80\xff", 2)...)
	for _, p := range list {
		for _, q := range list {
			pq := pattern.Compare(p, q)
			if pq != -pattern.Compare(q, p) || (pq == 0) != (p == q) || pq < -1 || pq > 1 {
				t.Fatalf("%q, %q: %d", p, q, pq)
			}
			for _, r := range list {
				if pq <= 0 && pattern.Compare(q, r) <= 0 && pattern.Compare(p, r) > 0 {
					t.Fatalf("%q, %q, %q", p, q, r)
				}
			}
		}
	}
}

// P4.1: Expand has the order of Compare, without repetition.
func TestExpandAscends(t *testing.T) {
	for _, p := range append(words("u-x", 5), strings.Repeat("x", 10), strings.Repeat("-x", 10), "x"+strings.Repeat("u", 50)+strings.Repeat("x", 9)) {
		list, e := pattern.Expand(p)
		if len(list) != 1<<strings.Count(p, "x") || e != api.OK {
			t.Fatalf("%q: %d patterns, %d", p, len(list), e)
		}
		for i := 1; i < len(list); i++ {
			if pattern.Compare(list[i-1], list[i]) != -1 {
				t.Fatalf("%q: %q, then %q", p, list[i-1], list[i])
			}
		}
	}
}

// P1: no argument makes a function of this layer panic.
func TestNoPanic(t *testing.T) {
	large := strings.Repeat("u-x.\x00\xff", 100000)
	samples := []string{"", "u", ".", "x.", "\x00", "\xff", "\u2013", full, fullEnd, closed, full + "u", fullEnd + "u", large,
		strings.Repeat("x", 100000), strings.Repeat(".", 100000)}
	for _, p := range samples {
		pattern.Valid(p)
		pattern.Marked(p)
		pattern.Letters(p)
		pattern.Plain(p)
		pattern.Expand(p)
		pattern.Morae(p)
		for _, q := range samples {
			pattern.Match(p, q)
			pattern.Meet(p, q)
			pattern.Join(p, q)
			pattern.Compare(p, q)
		}
	}
	for _, l := range []int{math.MinInt, -1, 0, 4, math.MaxInt} {
		for _, size := range []int{0, 1, 60, 61, 100000} {
			pattern.Text(slices.Repeat([]int{l}, size))
		}
	}
}

// A result is new memory: changing it changes no later result.
func TestResultsAreNew(t *testing.T) {
	letters, _ := pattern.Letters("-.uu.")
	letters[0] = 7
	if again, _ := pattern.Letters("-.uu."); !slices.Equal(again, []int{3, 0, 2}) {
		t.Errorf("%v", again)
	}
	list, _ := pattern.Expand("x")
	list[0] = ""
	if again, _ := pattern.Expand("x"); !slices.Equal(again, []string{"u", "-"}) {
		t.Errorf("%q", again)
	}
}
