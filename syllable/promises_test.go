package syllable_test

import (
	"math"
	"slices"
	"strings"
	"testing"

	"anceps/api"
	"anceps/syllable"
)

// lists returns all lists of a length with elements of another one.
func lists[E any](of []E, length int) [][]E {
	all := [][]E{nil}
	for range length {
		var longer [][]E
		for _, l := range all {
			for _, x := range of {
				longer = append(longer, append(slices.Clone(l), x))
			}
		}
		all = longer
	}
	return all
}

// breaksAmong returns all lists of at most so many breaks among so many sounds.
func breaksAmong(sounds, length int) [][]int {
	var places []int
	for at := range sounds + 1 {
		places = append(places, at)
	}
	var all [][]int
	for n := range length + 1 {
		for _, l := range lists(places, n) {
			if slices.IsSorted(l) {
				all = append(all, l)
			}
		}
	}
	return all
}

// allLines calls do with all lines of at most so many of some sounds, and at most so many breaks.
func allLines(text string, sounds, ends int, do func(c line)) {
	for n := range sounds + 1 {
		where := breaksAmong(n, ends)
		for _, l := range lists(of(text), n) {
			for _, b := range where {
				do(line{l, b})
			}
		}
	}
}

// smallLines calls do with lines of sounds of all kinds.
func smallLines(do func(c line)) {
	allLines("a_/v2 ae/d2 t/m r/l n/n s/s x/x i/g h/b", 4, 2, do)
	allLines("a/v3 t/m r/l x/x h/b", 5, 3, do)
	allLines("a/v1 t/m r/l", 7, 2, do)
}

func isNucleus(s api.Sound) bool {
	return s.Kind == api.Vowel || s.Kind == api.Diphthong
}

// nucleiOf returns the indices of the nuclei of some sounds.
func nucleiOf(sounds []api.Sound) []int {
	var nuclei []int
	for i, s := range sounds {
		if isNucleus(s) {
			nuclei = append(nuclei, i)
		}
	}
	return nuclei
}

// wordOf returns the number of the word of a sound: that of the last word that begins at it or ahead of it.
func wordOf(breaks []int, at int) int {
	starts := append([]int{0}, breaks...)
	for word := range slices.Backward(starts) {
		if starts[word] <= at {
			return word
		}
	}
	return -1
}

// definedCoda returns how many sounds belong to the syllable ahead, of those from first to next, by the definitions of layer 14.
func definedCoda(c line, first, next int) int {
	var core []int
	beats := 0
	for i := first; i < next; i++ {
		switch c.sounds[i].Kind {
		case api.Breath:
			continue
		case api.Double:
			beats++
		}
		beats++
		core = append(core, i)
	}
	if beats <= 1 {
		return 0
	}
	last := core[len(core)-1]
	if len(core) == 2 && c.sounds[core[0]].Kind == api.Mute && c.sounds[last].Kind == api.Liquid {
		upTo, among := 0, 0
		for _, at := range c.breaks {
			if first <= at && at <= next {
				among++
			}
			if first <= at && at <= core[0] {
				upTo++
			}
		}
		// All words that end here end ahead of the mute, or all of them behind the liquid.
		behind := !slices.ContainsFunc(c.breaks, func(at int) bool { return first <= at && at <= last })
		if behind || upTo == among {
			return 0
		}
	}
	if c.sounds[last].Kind == api.Double {
		return last + 1 - first
	}
	return last - first
}

// definedCluster returns the cluster behind the nucleus with the number i by the definition.
func definedCluster(c line, nuclei []int, i int) api.Cluster {
	var v api.Cluster
	at := nuclei[i]
	isNext := func(n int) bool { return n == len(c.sounds) || isNucleus(c.sounds[n]) }
	for n := at + 1; ; n++ {
		for _, b := range c.breaks {
			if b == n {
				v.Breaks = append(v.Breaks, n-at-1)
			}
		}
		if isNext(n) {
			return v
		}
		v.Sounds = append(v.Sounds, c.sounds[n])
	}
}

// definedSyllables returns the syllables of a line with nuclei by the definitions.
func definedSyllables(c line) []api.Syllable {
	nuclei := nucleiOf(c.sounds)
	var l []api.Syllable
	for i, at := range nuclei {
		s := syl(0, len(c.sounds), at, wordOf(c.breaks, at), true)
		if i > 0 {
			s.From = l[i-1].To
		}
		if i+1 < len(nuclei) {
			s.To = at + 1 + definedCoda(c, at+1, nuclei[i+1])
		}
		for _, later := range nuclei[i+1:] {
			s.Ends = s.Ends && wordOf(c.breaks, later) != s.Word
		}
		l = append(l, s)
	}
	return l
}

// definedText returns the text of the sounds of a line by the definition.
func definedText(c line, l []api.Syllable) string {
	text := ""
	for i, s := range c.sounds {
		ends := slices.ContainsFunc(l, func(s api.Syllable) bool { return s.To == i })
		word := slices.Contains(c.breaks, i)
		switch {
		case i == 0:
		case ends && word:
			text += " "
		case ends:
			text += "."
		case word:
			text += "_"
		}
		text += s.Text
	}
	return text
}

// P15.1: the syllables and the text of all small lines, by the definitions.
func TestAllSmallLines(t *testing.T) {
	smallLines(func(c line) {
		l, e := syllable.Divide(c.sounds, c.breaks)
		text, f := syllable.Text(c.sounds, c.breaks)
		if len(nucleiOf(c.sounds)) == 0 {
			if len(l) != 0 || text != "" || e != api.ErrEmpty || f != api.ErrEmpty || syllable.Check(c.sounds, c.breaks, l) {
				t.Fatalf("%v: %v, %d, %q, %d", c, l, e, text, f)
			}
			return
		}
		want := definedSyllables(c)
		if !slices.Equal(l, want) || e != api.OK {
			t.Fatalf("%v: %v, %d", c, l, e)
		}
		if text != definedText(c, want) || f != api.OK {
			t.Fatalf("%v: %q, %d", c, text, f)
		}
		if !syllable.Check(c.sounds, c.breaks, want) || syllable.Check(c.sounds, c.breaks, want[1:]) {
			t.Fatalf("%v: Check of %v", c, want)
		}
	})
}

// P15.1: the words, the clusters and the open syllables of all small lines, by the definitions.
func TestPartsOfSmallLines(t *testing.T) {
	smallLines(func(c line) {
		nuclei := nucleiOf(c.sounds)
		words, e := syllable.Nuclei(c.sounds, c.breaks)
		want := make([][]int, len(c.breaks)+1)
		for _, at := range nuclei {
			want[wordOf(c.breaks, at)] = append(want[wordOf(c.breaks, at)], at)
		}
		if !sameLists(words, want) || e != api.OK {
			t.Fatalf("%v: %v, %d", c, words, e)
		}
		for at := range c.sounds {
			if word := syllable.Word(c.breaks, at); word != wordOf(c.breaks, at) {
				t.Fatalf("%v: the sound %d is in the word %d", c, at, word)
			}
		}
		for i := range nuclei {
			if v, e := syllable.Between(c.sounds, c.breaks, i); !same(v, definedCluster(c, nuclei, i)) || e != api.OK {
				t.Fatalf("%v: behind the nucleus %d %v, %d", c, i, v, e)
			}
		}
		if v, e := syllable.Between(c.sounds, c.breaks, len(nuclei)); e != api.ErrRange || !same(v, api.Cluster{}) {
			t.Fatalf("%v: behind no nucleus %v, %d", c, v, e)
		}
		l, _ := syllable.Divide(c.sounds, c.breaks)
		for _, s := range l {
			part := c.sounds[s.From:s.To]
			if open, e := syllable.Open(c.sounds, s); open != isNucleus(part[len(part)-1]) || e != api.OK {
				t.Fatalf("%v: %v is open: %v, %d", c, s, open, e)
			}
		}
	})
}

// P15.2: as many syllables as nuclei, one in each; each sound is in exactly one; Ends and Word go with the words.
func TestSyllablesOfSmallLines(t *testing.T) {
	smallLines(func(c line) {
		l, e := syllable.Divide(c.sounds, c.breaks)
		if e == api.ErrEmpty {
			return
		}
		if len(l) != len(nucleiOf(c.sounds)) {
			t.Fatalf("%v: %v, %d", c, l, e)
		}
		owners := make([]int, len(c.sounds))
		ends := 0
		for i, s := range l {
			for at := s.From; at < s.To; at++ {
				owners[at]++
			}
			if n := nucleiOf(c.sounds[s.From:s.To]); len(n) != 1 || n[0]+s.From != s.Nucleus {
				t.Fatalf("%v: the nuclei of %v are %v", c, s, n)
			}
			if i > 0 && s.Word < l[i-1].Word {
				t.Fatalf("%v: the words of %v", c, l)
			}
			if s.Ends {
				ends++
			}
		}
		if slices.ContainsFunc(owners, func(n int) bool { return n != 1 }) {
			t.Fatalf("%v: %v has sounds in no syllable, or in several", c, l)
		}
		words, _ := syllable.Nuclei(c.sounds, c.breaks)
		for _, nuclei := range words {
			if len(nuclei) > 0 {
				ends--
			}
		}
		if ends != 0 {
			t.Fatalf("%v: %v, but the words have %v", c, l, words)
		}
	})
}

// P15.2: the text without points, spaces and low lines has the Texts of the sounds, without their low lines.
func TestTextOfSmallLines(t *testing.T) {
	smallLines(func(c line) {
		text, e := syllable.Text(c.sounds, c.breaks)
		if e == api.ErrEmpty {
			return
		}
		want := ""
		for _, s := range c.sounds {
			want += s.Text
		}
		plain := strings.NewReplacer(".", "", " ", "", "_", "")
		if plain.Replace(text) != plain.Replace(want) {
			t.Fatalf("%v: %q", c, text)
		}
	})
}

// P1: no argument makes a function of this layer panic or change what it was given.
func TestNoPanic(t *testing.T) {
	odd := []api.Sound{{Kind: math.MaxInt, Quantity: math.MinInt, Text: strings.Repeat("\x00", 100)}}
	lines := []line{
		{nil, nil}, {[]api.Sound{}, []int{}}, {of("a/v3 r/l m/n a/v3"), []int{1, 4}}, {of("a/v3 r/l m/n a/v3"), []int{4, 1}}, {of("t/m"), []int{0, 1}},
		{odd, nil}, {odd, []int{math.MaxInt, math.MinInt}}, {of("a/v1"), []int{math.MaxInt}}, {of("a/v1"), []int{math.MinInt}}, {make([]api.Sound, 200), make([]int, 20)},
		{times(200, "a/v1"), make([]int, 20)}, {times(5000, "a/v1"), make([]int, 5000)}, {append(times(199, "s/s"), of("a/v1")...), slices.Repeat([]int{200}, 20)},
	}
	numbers := []int{math.MinInt, -1, 0, 1, 3, 4, 199, 200, 201, math.MaxInt}
	for _, c := range lines {
		sounds, breaks := slices.Clone(c.sounds), slices.Clone(c.breaks)
		l, _ := syllable.Divide(c.sounds, c.breaks)
		kept := slices.Clone(l)
		for _, other := range lines {
			syllable.Check(other.sounds, other.breaks, l)
		}
		syllable.Text(c.sounds, c.breaks)
		syllable.Nuclei(c.sounds, c.breaks)
		for _, i := range numbers {
			syllable.Between(c.sounds, c.breaks, i)
			syllable.Word(c.breaks, i)
			for _, j := range numbers {
				for _, k := range numbers {
					syllable.Open(c.sounds, syl(i, j, k, i, false))
				}
			}
		}
		if !slices.Equal(c.sounds, sounds) || !slices.Equal(c.breaks, breaks) || !slices.Equal(l, kept) {
			t.Errorf("an argument was changed: %v, %v, %v", sounds, breaks, kept)
		}
	}
}

// Results are new memory: changing or growing one changes neither the arguments, nor another part, nor a later result.
func TestResultsAreNew(t *testing.T) {
	l, breaks := of("e/v3 t/m a/v3 l/l t/m o/v3"), []int{0, 2, 2, 6}
	kept, ends := slices.Clone(l), slices.Clone(breaks)
	check := func(what string) {
		if !slices.Equal(l, kept) || !slices.Equal(breaks, ends) {
			t.Fatalf("%s: %v, %v", what, l, breaks)
		}
	}
	for range 2 {
		divided, _ := syllable.Divide(l, breaks)
		if !syllable.Check(l, breaks, divided) {
			t.Errorf("Divide: %v", divided)
		}
		clear(divided)
		check("Divide")
		words, _ := syllable.Nuclei(l, breaks)
		for _, nuclei := range words {
			_ = append(nuclei, 77, 77)
		}
		if !sameLists(words, [][]int{nil, {0}, nil, {2, 5}, nil}) {
			t.Errorf("words that grow: %v", words)
		}
		for _, nuclei := range words {
			clear(nuclei)
		}
		clear(words)
		check("Nuclei")
		for i, want := range []api.Cluster{{Sounds: of("t/m"), Breaks: []int{1, 1}}, {Sounds: of("l/l t/m")}, {Breaks: []int{0}}} {
			v, _ := syllable.Between(l, breaks, i)
			if !same(v, want) {
				t.Errorf("Between %d: %v", i, v)
			}
			_ = append(v.Sounds, make([]api.Sound, 3)...)
			_ = append(v.Breaks, make([]int, 3)...)
			clear(v.Sounds)
			clear(v.Breaks)
			check("Between")
		}
	}
}
