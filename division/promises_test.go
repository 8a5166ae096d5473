package division_test

import (
	"cmp"
	"math"
	"slices"
	"strings"
	"testing"

	"anceps/api"
	"anceps/division"
	"anceps/orthography"
)

func isNucleus(s api.Sound) bool {
	return s.Kind == api.Vowel || s.Kind == api.Diphthong
}

// canStand reports whether the element i of a list can stand there, as chapter 12 says.
func canStand(o api.Orthography, list []int, i int) bool {
	ahead, behind := false, false
	if i > 0 {
		sounds := o.Signs[list[i-1]].Sounds
		ahead = isNucleus(sounds[len(sounds)-1])
	}
	if i < len(list)-1 {
		behind = isNucleus(o.Signs[list[i+1]].Sounds[0])
	}
	return map[int]bool{api.Anywhere: true, api.BeforeVowel: behind, api.AtStart: i == 0 && behind, api.Between: ahead && behind, api.NotBefore: !behind}[o.Signs[list[i]].Where]
}

func canAllStand(o api.Orthography, list []int) bool {
	for i := range list {
		if !canStand(o, list, i) {
			return false
		}
	}
	return true
}

// spellings returns all lists of signs whose texts are a word, wherever they can stand.
func spellings(o api.Orthography, word string) [][]int {
	if word == "" {
		return [][]int{nil}
	}
	var all [][]int
	for i, s := range o.Signs {
		if rest, ok := strings.CutPrefix(word, s.Text); ok {
			for _, l := range spellings(o, rest) {
				all = append(all, append([]int{i}, l...))
			}
		}
	}
	return all
}

func costOf(o api.Orthography, list []int) int {
	n := 0
	for _, i := range list {
		n += o.Signs[i].Cost
	}
	return n
}

// divisions returns the divisions of a word in order, by the definition.
func divisions(o api.Orthography, word string) [][]int {
	var all [][]int
	for _, l := range spellings(o, word) {
		if canAllStand(o, l) {
			all = append(all, l)
		}
	}
	slices.SortFunc(all, func(a, b []int) int { return cmp.Or(costOf(o, a)-costOf(o, b), slices.Compare(a, b)) })
	return all
}

// reached returns how many letters of a word are spelled, by the definition.
func reached(o api.Orthography, word string) int {
	for n := len(word); n > 0; n-- {
		if len(spellings(o, word[:n])) > 0 {
			return n
		}
	}
	return 0
}

// words returns all words of 1 to n letters of an alphabet.
func words(alphabet string, n int) []string {
	var all []string
	last := []string{""}
	for range n {
		var next []string
		for _, w := range last {
			for i := range len(alphabet) {
				next = append(next, w+alphabet[i:i+1])
			}
		}
		all = append(all, next...)
		last = next
	}
	return all
}

// compare compares what the functions say about a word with the definitions.
func compare(t *testing.T, o api.Orthography, word string) {
	t.Helper()
	want, e := divisions(o, word), api.OK
	switch {
	case len(want) == 0:
		e = api.ErrUnknown
	case len(want) > 200:
		want, e = nil, api.ErrTooLarge
	}
	all, eAll := division.All(o, word)
	if eAll != e || !slices.EqualFunc(all, want, slices.Equal[[]int]) {
		t.Errorf("All(%s): %v, %d, but %v", word, all, eAll, want)
	}
	n, eCount := division.Count(o, word)
	if eCount != e || n != len(want) {
		t.Errorf("Count(%s): %d, %d", word, n, eCount)
	}
	best, cost, eBest := division.Best(o, word)
	if e == api.OK && (cost != costOf(o, want[0]) || !slices.Equal(best, want[0])) || e != api.OK && (best != nil || cost != 0) || e != eBest {
		t.Errorf("Best(%s): %v, %d, %d", word, best, cost, eBest)
	}
	if n, e := division.Reached(o, word); e != api.OK || n != reached(o, word) || len(want) > 0 && n != len(word) {
		t.Errorf("Reached(%s): %d, %d", word, n, e)
	}
	accepted := 0
	for _, l := range spellings(o, word) {
		cost, e := division.Check(o, word, l)
		if canAllStand(o, l) && (e != api.OK || cost != costOf(o, l)) || !canAllStand(o, l) && (e != api.ErrRefused || cost != 0) {
			t.Errorf("Check(%s, %v): %d, %d", word, l, cost, e)
		}
		if e == api.OK {
			accepted++
		}
	}
	if len(want) > 0 && accepted != len(want) {
		t.Errorf("%s: Check accepts %d, All has %d", word, accepted, len(want))
	}
}

// P13.1, P13.2: all short words over letters that make trouble, in Latin and Greek.
func TestAllWords(t *testing.T) {
	latin, greek := orthography.Latin(), orthography.Greek()
	for _, w := range words("aeiuqst", 3) {
		compare(t, latin, w)
	}
	for _, w := range words("uia", 5) {
		compare(t, latin, w)
	}
	for _, w := range words("pshe_", 4) {
		compare(t, greek, w)
	}
	for _, w := range words("aiukh", 3) {
		compare(t, greek, w)
	}
}

// mixed returns an orthography that depends on a number alone: with signs of all kinds, in changing order.
func mixed(seed uint32) api.Orthography {
	next := func(n int) int {
		seed = seed*1664525 + 1013904223
		return int(seed>>16) % n
	}
	texts := []string{"a", "b", "ab", "ba", "aa", "aba", "bbab"}
	sounds := []string{"a/v1", "t/m", "a/v1 t/m", "t/m a/d2", "x/x s/s", "i/v3 u/v2", "h/b", "u/g"}
	o := api.Orthography{Name: "mixed"}
	for range 1 + next(12) {
		s := api.Sign{Text: texts[next(len(texts))], Sounds: list(sounds[next(len(sounds))]), Cost: next(4), Where: next(5)}
		if orthography.Valid(api.Orthography{Name: o.Name, Signs: append(slices.Clone(o.Signs), s)}) == api.OK {
			o.Signs = append(o.Signs, s)
		}
	}
	return o
}

// P13.1, P13.2: all words of few letters, in many orthographies.
func TestMixed(t *testing.T) {
	list := words("ab", 5)
	for seed := range uint32(400) {
		o := mixed(seed)
		for _, w := range list {
			compare(t, o, w)
		}
	}
}

// P13.2: Check accepts no other list of few signs than those that All returns.
func TestNoOtherDivision(t *testing.T) {
	latin := orthography.Latin()
	for _, w := range []string{"ia", "ui", "ae", "qu", "eu"} {
		all, _ := division.All(latin, w)
		for a := range latin.Signs {
			for _, l := range [][]int{{a}, {a, 0}, {a, 1}, {a, 2}, {a, 4}, {a, 22}, {a, 24}, {a, 25}, {0, a}, {22, a}, {a, a}, {2, 0, a}, {a, 2, 0}} {
				has := slices.ContainsFunc(all, func(d []int) bool { return slices.Equal(d, l) })
				if _, e := division.Check(latin, w, l); (e == api.OK) != has {
					t.Errorf("Check(%s, %v): %d", w, l, e)
				}
			}
		}
	}
}

// P13.2: further signs at the end of an orthography lose no division.
func TestFurtherSigns(t *testing.T) {
	for seed := range uint32(300) {
		o := mixed(seed)
		fewer := api.Orthography{Name: o.Name, Signs: o.Signs[:1+len(o.Signs)/2]}
		for _, w := range words("ab", 4) {
			less, e := division.All(fewer, w)
			more, f := division.All(o, w)
			if f == api.ErrTooLarge {
				continue
			}
			if e == api.OK && f != api.OK {
				t.Errorf("%d, %s: %d", seed, w, f)
			}
			for _, d := range less {
				if !slices.ContainsFunc(more, func(l []int) bool { return slices.Equal(d, l) }) {
					t.Errorf("%d, %s: %v is lost", seed, w, d)
				}
			}
		}
	}
}

// P13.1: sounds, offsets and texts of any lists, also of those whose signs cannot stand there.
func TestLists(t *testing.T) {
	latin := orthography.Latin()
	for _, l := range [][]int{nil, {}, {0}, {46}, {23, 23}, {30, 28, 23, 18}, {22, 24, 25}, {0, 0, 0, 0, 0, 0, 0, 0, 0, 0, 0, 0, 0, 0, 0, 0}, {30, 30, 30, 30, 30, 30, 30, 30, 30, 30, 30, 30, 30, 30, 30, 30}} {
		var sounds []api.Sound
		var offsets []int
		text := ""
		for _, i := range l {
			for _, s := range latin.Signs[i].Sounds {
				sounds, offsets = append(sounds, s), append(offsets, len(text))
			}
			text += latin.Signs[i].Text
		}
		if got, e := division.Sounds(latin, l); e != api.OK || !slices.Equal(got, sounds) {
			t.Errorf("Sounds(%v): %v, %d", l, got, e)
		}
		if got, e := division.Offsets(latin, l); e != api.OK || !slices.Equal(got, offsets) {
			t.Errorf("Offsets(%v): %v, %d", l, got, e)
		}
		if got, e := division.Text(latin, l); e != api.OK || got != text {
			t.Errorf("Text(%v): %q, %d", l, got, e)
		}
	}
}

// P13.1: the errors of lists in their order.
func TestListErrors(t *testing.T) {
	latin := orthography.Latin()
	wrong := api.Orthography{Name: "Latin", Signs: latin.Signs}
	for i, c := range []struct {
		o    api.Orthography
		list []int
		e    api.Errno
	}{
		{latin, make([]int, 16), api.OK}, {latin, make([]int, 17), api.ErrTooLarge}, {latin, append(make([]int, 16), -1), api.ErrTooLarge}, {latin, append(make([]int, 15), -1), api.ErrRange},
		{latin, []int{46}, api.OK}, {latin, []int{47}, api.ErrRange}, {latin, []int{-1, 0}, api.ErrRange}, {latin, []int{0, math.MaxInt}, api.ErrRange}, {latin, []int{math.MinInt}, api.ErrRange},
		{wrong, nil, api.ErrSyntax}, {wrong, []int{-1}, api.ErrSyntax}, {wrong, make([]int, 17), api.ErrSyntax}, {api.Orthography{Name: "a"}, nil, api.ErrEmpty}, {api.Orthography{Name: "a"}, []int{0}, api.ErrEmpty},
	} {
		if l, e := division.Sounds(c.o, c.list); e != c.e || e != api.OK && l != nil {
			t.Errorf("Sounds, row %d: %v, %d", i, l, e)
		}
		if l, e := division.Offsets(c.o, c.list); e != c.e || e != api.OK && l != nil {
			t.Errorf("Offsets, row %d: %v, %d", i, l, e)
		}
		if s, e := division.Text(c.o, c.list); e != c.e || e != api.OK && s != "" {
			t.Errorf("Text, row %d: %q, %d", i, s, e)
		}
	}
}

// P13.1: the texts of the signs of a division are its word.
func TestTextOfDivision(t *testing.T) {
	latin := orthography.Latin()
	for _, w := range []string{"arma", "troiae", "suauis", "quoque", "eheu"} {
		all, _ := division.All(latin, w)
		for _, d := range all {
			if s, e := division.Text(latin, d); s != w || e != api.OK {
				t.Errorf("Text(%v): %q, %d", d, s, e)
			}
		}
		if len(all) == 0 {
			t.Errorf("%s has no division", w)
		}
	}
}

// P1: no function panics or changes its arguments, whatever these are.
func TestNoPanic(t *testing.T) {
	latin := orthography.Latin()
	sign := api.Sign{Text: "a", Sounds: list("a/v3"), Where: 7, Cost: math.MaxInt}
	for _, o := range []api.Orthography{latin, orthography.Greek(), {}, {Name: "a"}, {Name: "a", Signs: []api.Sign{{}}}, {Name: "a", Signs: []api.Sign{{Text: "a"}}}, {Name: "a", Signs: []api.Sign{sign, sign}}} {
		before := slices.Clone(o.Signs)
		for _, w := range []string{"", "a", "iam", "\xff", "A", "a b", strings.Repeat("ui", 8), strings.Repeat("u", 1000)} {
			division.All(o, w)
			division.Best(o, w)
			division.Count(o, w)
			division.Reached(o, w)
			for _, l := range [][]int{nil, {0}, {-1}, {math.MaxInt, math.MinInt}, {22, 0, 41}, make([]int, 100000)} {
				kept := slices.Clone(l)
				division.Check(o, w, l)
				division.Sounds(o, l)
				division.Offsets(o, l)
				division.Text(o, l)
				if !slices.Equal(l, kept) {
					t.Errorf("%v has changed", kept)
				}
			}
		}
		for i, s := range o.Signs {
			if s.Text != before[i].Text || !slices.Equal(s.Sounds, before[i].Sounds) || s.Cost != before[i].Cost || s.Where != before[i].Where {
				t.Errorf("sign %d has changed", i)
			}
		}
	}
}

// Results are new memory: what a caller does with one changes neither arguments nor other results.
func TestResultsAreNew(t *testing.T) {
	latin := orthography.Latin()
	want, _ := division.All(latin, "troiae")
	first, _ := division.All(latin, "troiae")
	for i := range first {
		first[i] = append(first[i], 99)
		for j := range first[i] {
			first[i][j] = -1
		}
		for k := i + 1; k < len(first); k++ {
			if !slices.Equal(first[k], want[k]) {
				t.Errorf("divisions %d and %d share memory", i, k)
			}
		}
	}
	list := []int{38, 40, 3, 23, 18}
	sounds, _ := division.Sounds(latin, list)
	again, _ := division.Sounds(latin, list)
	clear(sounds)
	offsets, _ := division.Offsets(latin, list)
	clear(offsets)
	if second, _ := division.Sounds(latin, list); !slices.Equal(second, again) {
		t.Error("sounds are shared")
	}
	if second, _ := division.Offsets(latin, list); !slices.Equal(second, []int{0, 1, 2, 3, 3, 4}) {
		t.Error("offsets are shared")
	}
	if second, _ := division.All(latin, "troiae"); !slices.EqualFunc(second, want, slices.Equal[[]int]) {
		t.Error("divisions are shared")
	}
}
