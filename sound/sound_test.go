package sound_test

import (
	"math"
	"slices"
	"strings"
	"testing"

	"anceps/api"
	"anceps/sound"
)

// The bytes of the texts of sounds, written out, so that the tests do not share the rule of the program.
const marks = "abcdefghijklmnopqrstuvwxyz" + "0123456789" + "_^'"

// The numbers of the kinds are the chapter's own, for the same reason.
const (
	vowel     = 1
	diphthong = 2
	mute      = 3
	liquid    = 4
	nasal     = 5
	sibilant  = 6
	double    = 7
	glide     = 8
	breath    = 9
)

// beats has what a sound of each kind counts, and quantities those that it can have.
var (
	beats      = []int{vowel: 0, diphthong: 0, mute: 1, liquid: 1, nasal: 1, sibilant: 1, double: 2, glide: 1, breath: 0}
	quantities = [][]int{vowel: {1, 2, 3}, diphthong: {2}, mute: {0}, liquid: {0}, nasal: {0}, sibilant: {0}, double: {0}, glide: {0}, breath: {0}}
	someInts   = []int{math.MinInt, math.MinInt32, -256, -3, -2, -1, 0, 1, 2, 3, 4, 5, 6, 7, 8, 9, 10, 11, 257, 265, math.MaxInt32, math.MaxInt}
)

// of returns a sound.
func of(kind, quantity int, text string) api.Sound {
	return api.Sound{Kind: kind, Quantity: quantity, Text: text}
}

// axis is the chapter's example.
func axis() []api.Sound {
	return []api.Sound{of(vowel, 3, "a"), of(double, 0, "x"), of(vowel, 3, "i"), of(sibilant, 0, "s")}
}

// someSounds returns sounds of all kinds, valid or not.
func someSounds() []api.Sound {
	var l []api.Sound
	for _, kind := range someInts {
		for _, quantity := range []int{math.MinInt, -1, 0, 1, 2, 3, 4, math.MaxInt} {
			for _, text := range []string{"", "a", "A", "ab", "b", "\xff", "/", "abcdefgh", "abcdefghi"} {
				l = append(l, of(kind, quantity, text))
			}
		}
	}
	return l
}

// errorOf returns the error of a sound, as the chapter says.
func errorOf(s api.Sound) api.Errno {
	if s.Kind < 1 || s.Kind >= len(quantities) {
		return api.ErrInvalid
	}
	if !slices.Contains(quantities[s.Kind], s.Quantity) {
		return api.ErrRange
	}
	if len(s.Text) == 0 {
		return api.ErrEmpty
	}
	if len(s.Text) > 8 {
		return api.ErrTooLarge
	}
	for i := range len(s.Text) {
		if !strings.Contains(marks, s.Text[i:i+1]) {
			return api.ErrSyntax
		}
	}
	return api.OK
}

// P11.1: the errors of sounds, each alone.
func TestValid(t *testing.T) {
	for i, c := range []struct {
		s api.Sound
		e api.Errno
	}{
		{of(vowel, 1, "a"), api.OK}, {of(vowel, 2, "a_"), api.OK}, {of(vowel, 3, "a'"), api.OK}, {of(diphthong, 2, "ae"), api.OK},
		{of(mute, 0, "th"), api.OK}, {of(liquid, 0, "r"), api.OK}, {of(nasal, 0, "m"), api.OK}, {of(sibilant, 0, "s"), api.OK},
		{of(double, 0, "x"), api.OK}, {of(glide, 0, "i"), api.OK}, {of(breath, 0, "h"), api.OK},
		{of(mute, 0, "az09_^'a"), api.OK}, {of(breath, 0, "'"), api.OK}, {of(nasal, 0, "7"), api.OK},
		{of(0, 0, "a"), api.ErrInvalid}, {of(10, 0, "a"), api.ErrInvalid}, {of(-1, 0, "a"), api.ErrInvalid}, {api.Sound{}, api.ErrInvalid},
		{of(vowel, 0, "a"), api.ErrRange}, {of(vowel, 4, "a"), api.ErrRange}, {of(vowel, -1, "a"), api.ErrRange},
		{of(diphthong, 0, "ae"), api.ErrRange}, {of(diphthong, 1, "ae"), api.ErrRange}, {of(diphthong, 3, "ae"), api.ErrRange},
		{of(mute, 1, "t"), api.ErrRange}, {of(double, 2, "x"), api.ErrRange}, {of(glide, 3, "i"), api.ErrRange}, {of(breath, -1, "h"), api.ErrRange},
		{of(vowel, 1, ""), api.ErrEmpty}, {of(mute, 0, ""), api.ErrEmpty},
		{of(vowel, 1, "abcdefghi"), api.ErrTooLarge}, {of(mute, 0, strings.Repeat("t", 1000)), api.ErrTooLarge},
		{of(vowel, 1, "A"), api.ErrSyntax}, {of(mute, 0, "t "), api.ErrSyntax}, {of(mute, 0, "/"), api.ErrSyntax}, {of(vowel, 1, "\u0101"), api.ErrSyntax},
		{of(10, 7, ""), api.ErrInvalid}, {of(0, 1, "?????????"), api.ErrInvalid}, {of(vowel, 0, ""), api.ErrRange}, {of(mute, 3, "?????????"), api.ErrRange},
		{of(vowel, 3, "?????????"), api.ErrTooLarge}, {of(mute, 0, "abcdefg?"), api.ErrSyntax},
	} {
		if e := sound.Valid(c.s); e != c.e {
			t.Errorf("row %d: %d", i, e)
		}
	}
}

// P11.1: the errors of sounds, in all their combinations.
func TestOrderOfErrors(t *testing.T) {
	for _, kind := range someInts {
		for _, quantity := range someInts {
			for _, text := range []string{"", "a", "?", "abcdefgh", "abcdefg?", "abcdefghi", "abcdefgh?", strings.Repeat("\x00", 300)} {
				s := of(kind, quantity, text)
				if e := sound.Valid(s); e != errorOf(s) {
					t.Fatalf("%v: %d", s, e)
				}
			}
		}
	}
}

// P11.1: every byte at every place of a text.
func TestBytes(t *testing.T) {
	for b := range 256 {
		s := string([]byte{byte(b)})
		want := api.ErrSyntax
		if strings.Contains(marks, s) {
			want = api.OK
		}
		for ahead := range 8 {
			for behind := range 8 - ahead {
				text := strings.Repeat("a", ahead) + s + strings.Repeat("b", behind)
				if e := sound.Valid(of(vowel, 1, text)); e != want {
					t.Errorf("%q: %d", text, e)
				}
			}
		}
	}
}

// P11.1: Nucleus of any sounds, valid or not.
func TestNucleus(t *testing.T) {
	for _, s := range someSounds() {
		if is := sound.Nucleus(s); is != (s.Kind == 1 || s.Kind == 2) {
			t.Errorf("%v: %v", s, is)
		}
	}
}

// P11.1: what each kind counts, and sums.
func TestBeats(t *testing.T) {
	for _, s := range someSounds() {
		want := 0
		if s.Kind > 0 && s.Kind < len(beats) {
			want = beats[s.Kind]
		}
		if n := sound.Beats([]api.Sound{s}); n != want {
			t.Errorf("%v: %d", s, n)
		}
	}
	for i, c := range []struct {
		l    []api.Sound
		want int
	}{
		{nil, 0}, {[]api.Sound{}, 0}, {axis(), 3}, {[]api.Sound{of(diphthong, 2, "ae"), of(breath, 0, "h"), of(vowel, 1, "o")}, 0},
		{[]api.Sound{of(mute, 0, "t"), of(liquid, 0, "r")}, 2}, {[]api.Sound{of(mute, 0, "t"), of(breath, 0, "h"), of(10, 0, "t")}, 1},
		{slices.Repeat([]api.Sound{of(double, 5, "")}, 5000), 10000},
	} {
		if n := sound.Beats(c.l); n != c.want {
			t.Errorf("row %d: %d", i, n)
		}
	}
}

// P11.1: the nuclei and the clusters of examples; sounds of kinds that do not exist stand in clusters.
func TestNucleiAndClusters(t *testing.T) {
	a, ae, h, o, t1, no := of(vowel, 1, "a"), of(diphthong, 2, "ae"), of(breath, 0, "h"), of(vowel, 1, "o"), of(mute, 0, "t"), of(11, -1, "")
	for i, c := range []struct {
		l        []api.Sound
		nuclei   []int
		clusters [][]api.Sound
	}{
		{axis(), []int{0, 2}, [][]api.Sound{nil, {of(double, 0, "x")}, {of(sibilant, 0, "s")}}},
		{[]api.Sound{ae, h, o}, []int{0, 2}, [][]api.Sound{nil, {h}, nil}},
		{nil, nil, [][]api.Sound{nil}},
		{[]api.Sound{a}, []int{0}, [][]api.Sound{nil, nil}},
		{[]api.Sound{t1}, nil, [][]api.Sound{{t1}}},
		{[]api.Sound{a, ae}, []int{0, 1}, [][]api.Sound{nil, nil, nil}},
		{[]api.Sound{t1, h, t1, a, t1, no, no, ae, a, h}, []int{3, 7, 8}, [][]api.Sound{{t1, h, t1}, {t1, no, no}, nil, {h}}},
		{[]api.Sound{of(vowel, 0, ""), no, of(0, 0, ""), of(diphthong, 9, "")}, []int{0, 3}, [][]api.Sound{nil, {no, of(0, 0, "")}, nil}},
	} {
		if l := sound.Nuclei(c.l); !slices.Equal(l, c.nuclei) {
			t.Errorf("Nuclei, row %d: %v", i, l)
		}
		if l := sound.Clusters(c.l); !slices.EqualFunc(l, c.clusters, slices.Equal[[]api.Sound]) {
			t.Errorf("Clusters, row %d: %v", i, l)
		}
	}
}

// P11.1: Compare of sounds that are written down in their order.
func TestCompare(t *testing.T) {
	ascending := []api.Sound{
		of(math.MinInt, math.MaxInt, "z"), of(-1, 0, ""), of(0, 0, "b"), of(1, math.MinInt, "z"), of(1, -1, "z"), of(1, 0, ""), of(1, 0, "\x00"), of(1, 0, "'"), of(1, 0, "0"),
		of(1, 0, "^"), of(1, 0, "_"), of(1, 0, "a"), of(1, 0, "a\x00"), of(1, 0, "aa"), of(1, 0, "b"), of(1, 0, "\x80"), of(1, 0, "\xff"), of(1, 1, ""), of(1, 2, "a"), of(1, 3, "a"),
		of(1, math.MaxInt, ""), of(2, 2, "ae"), of(2, 2, "au"), of(3, 0, "a"), of(9, -1, ""), of(10, math.MinInt, ""), of(math.MaxInt, math.MinInt, ""), of(math.MaxInt, math.MinInt, "a"),
	}
	for i, a := range ascending {
		for j, b := range ascending {
			want := 0
			if i < j {
				want = -1
			} else if i > j {
				want = 1
			}
			if n := sound.Compare(a, b); n != want {
				t.Errorf("%v, %v: %d", a, b, n)
			}
		}
	}
}
