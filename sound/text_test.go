package sound_test

import (
	"slices"
	"strconv"
	"strings"
	"testing"

	"anceps/api"
	"anceps/sound"
)

// The letters of the kinds, from 1 on.
var kindLetters = []string{vowel: "v", diphthong: "d", mute: "m", liquid: "l", nasal: "n", sibilant: "s", double: "x", glide: "g", breath: "b"}

// textOf returns the text of valid sounds, as the chapter says.
func textOf(l []api.Sound) string {
	text := ""
	for i, s := range l {
		if i > 0 {
			text += " "
		}
		text += s.Text + "/" + kindLetters[s.Kind]
		if s.Kind <= diphthong {
			text += strconv.Itoa(s.Quantity)
		}
	}
	return text
}

// everySound returns the sounds of all kinds and quantities with some texts.
func everySound(texts ...string) []api.Sound {
	var l []api.Sound
	for kind := vowel; kind <= breath; kind++ {
		for _, quantity := range quantities[kind] {
			for _, text := range texts {
				l = append(l, of(kind, quantity, text))
			}
		}
	}
	return l
}

// checkText checks that a list has a text, and that the text leads back to it.
func checkText(t *testing.T, l []api.Sound, want string) {
	t.Helper()
	if s, e := sound.Format(l); s != want || e != api.OK {
		t.Errorf("Format of %v: %q, %d", l, s, e)
	}
	if back, e := sound.Parse(want); !slices.Equal(back, l) || e != api.OK {
		t.Errorf("Parse of %q: %v, %d", want, back, e)
	}
}

// P11.1: lists with their texts.
func TestTexts(t *testing.T) {
	for _, c := range []struct {
		l    []api.Sound
		want string
	}{
		{axis(), "a/v3 x/x i/v3 s/s"}, {[]api.Sound{of(diphthong, 2, "ae"), of(breath, 0, "h"), of(vowel, 1, "o")}, "ae/d2 h/b o/v1"},
		{nil, ""}, {[]api.Sound{}, ""}, {[]api.Sound{of(vowel, 2, "a_")}, "a_/v2"},
		{[]api.Sound{of(mute, 0, "th"), of(liquid, 0, "r"), of(nasal, 0, "n"), of(glide, 0, "i"), of(glide, 0, "i")}, "th/m r/l n/n i/g i/g"},
		{[]api.Sound{of(vowel, 3, "v3"), of(mute, 0, "0")}, "v3/v3 0/m"}, {[]api.Sound{of(sibilant, 0, "'^_azaz9")}, "'^_azaz9/s"},
	} {
		checkText(t, c.l, c.want)
	}
	for _, s := range everySound("a", "a^", "'", "7", "abcdefgh", marks[:8], marks[20:28], marks[31:]) {
		checkText(t, []api.Sound{s}, textOf([]api.Sound{s}))
	}
}

// P11.1: the longest lists and texts.
func TestLongTexts(t *testing.T) {
	for _, s := range []api.Sound{of(vowel, 3, "abcdefgh"), of(mute, 0, "t"), of(diphthong, 2, "oe")} {
		longest := slices.Repeat([]api.Sound{s}, 200)
		checkText(t, longest, textOf(longest))
		longer := append(longest, s)
		if text, e := sound.Format(longer); text != "" || e != api.ErrTooLarge {
			t.Errorf("Format of 201 sounds: %q, %d", text, e)
		}
		if l, e := sound.Parse(textOf(longer)); len(l) != 0 || e != api.ErrSyntax {
			t.Errorf("Parse of 201 sounds: %v, %d", l, e)
		}
	}
}

// P11.1: the errors of Format, in their order.
func TestFormatErrors(t *testing.T) {
	good, kind, quantity, empty, large, syntax := of(mute, 0, "t"), of(10, 0, "t"), of(mute, 1, "t"), of(mute, 0, ""), of(mute, 0, "ttttttttt"), of(mute, 0, "T")
	for i, c := range []struct {
		l []api.Sound
		e api.Errno
	}{
		{[]api.Sound{kind}, api.ErrInvalid}, {[]api.Sound{quantity}, api.ErrRange}, {[]api.Sound{empty}, api.ErrEmpty}, {[]api.Sound{large}, api.ErrTooLarge}, {[]api.Sound{syntax}, api.ErrSyntax},
		{[]api.Sound{{}}, api.ErrInvalid}, {[]api.Sound{of(vowel, 0, "a")}, api.ErrRange}, {[]api.Sound{of(diphthong, 3, "ae")}, api.ErrRange},
		{[]api.Sound{good, good, syntax}, api.ErrSyntax}, {[]api.Sound{syntax, kind}, api.ErrSyntax}, {[]api.Sound{good, empty, kind, syntax}, api.ErrEmpty}, {[]api.Sound{large, syntax}, api.ErrTooLarge},
		{slices.Repeat([]api.Sound{syntax}, 200), api.ErrSyntax}, {slices.Repeat([]api.Sound{syntax}, 201), api.ErrTooLarge}, {slices.Repeat([]api.Sound{good}, 100000), api.ErrTooLarge},
		{append(slices.Repeat([]api.Sound{good}, 199), quantity), api.ErrRange}, {append(slices.Repeat([]api.Sound{good}, 200), quantity), api.ErrTooLarge},
	} {
		if s, e := sound.Format(c.l); s != "" || e != c.e {
			t.Errorf("row %d: %q, %d", i, s, e)
		}
	}
}

// P11.1: texts that are not accepted.
func TestParseErrors(t *testing.T) {
	for _, s := range []string{
		"a/v", "ae/d3", "ae/d1", "ae/d", "a/v0", "a/v4", "a/v03", "a/v33", "a/v-1", "a/v+1", "a/v3 ", " a/v3", "a/v3  x/x", " ", "  ", "/", "a", "a/", "/v3", "/m", "//m", "a//m", "a/m/", "a/m/m",
		"x/x2", "x/x0", "t/m ", "t/M", "T/m", "t/c", "t/t", "t/1", "t/3", "t/mm", "t/\x00", "t/m\n", "t/m\tr/l", "t/m\nr/l", "t/m,r/l", "abcdefghi/m", "t/m r", "t/m r/", "t/m /l", "t/m r/l x", "a/v\xb3", "a/v\x33\x00",
		"\xe9/m", "a/\xf6", "a?/m", "a\u0304/v2", "3v/a", "t /m", "t/ m", "a/v 3", "a/3v", "a/v3x/x", "a/v3/x", "\x00", "\xff",
		strings.Repeat(" ", 199), strings.Repeat(" ", 4000), strings.Repeat("/", 4000), strings.Repeat("a", 4000), strings.Repeat("t/m ", 1000), strings.Repeat("t/m ", 999) + "t/m",
	} {
		if l, e := sound.Parse(s); len(l) != 0 || e != api.ErrSyntax {
			t.Errorf("%q: %v, %d", s, l, e)
		}
	}
	for _, s := range []string{strings.Repeat(" ", 4001), strings.Repeat("t/m ", 1001), strings.Repeat("?", 4001), strings.Repeat("\x00", 1000000), strings.Repeat("t/m ", 1000) + "x"} {
		if l, e := sound.Parse(s); len(l) != 0 || e != api.ErrTooLarge {
			t.Errorf("%d bytes: %v, %d", len(s), l, e)
		}
	}
}

// P11.1 and P11.2: among all short texts over some bytes, Parse accepts exactly those of lists.
func TestShortTexts(t *testing.T) {
	const bytes, length = "av/2 d3m", 7
	lists := map[string][]api.Sound{"": nil}
	ahead := [][]api.Sound{nil}
	var sounds []api.Sound
	for _, s := range everySound("a", "v", "2", "d", "3", "m", "aa", "v3", "vv", "d2", "mm", "2m") {
		if strings.Trim(textOf([]api.Sound{s}), bytes) == "" {
			sounds = append(sounds, s)
		}
	}
	for range 2 {
		var longer [][]api.Sound
		for _, l := range ahead {
			for _, s := range sounds {
				with := append(slices.Clone(l), s)
				lists[textOf(with)] = with
				longer = append(longer, with)
			}
		}
		ahead = longer
	}
	accepted := 0
	var check func(text string)
	check = func(text string) {
		l, e := sound.Parse(text)
		if e == api.OK {
			accepted++
			if back, e := sound.Format(l); back != text || e != api.OK {
				t.Fatalf("%q: Format returns %q, %d", text, back, e)
			}
		} else if len(l) != 0 || e != api.ErrSyntax {
			t.Fatalf("%q: %v, %d", text, l, e)
		}
		if want, is := lists[text]; is && (e != api.OK || !slices.Equal(l, want)) {
			t.Fatalf("%q: %v, %d", text, l, e)
		}
		if len(text) < length {
			for i := range len(bytes) {
				check(text + bytes[i:i+1])
			}
		}
	}
	check("")
	// One sound: a/m with 1 to 5 letters of 6, a/v2, a/v3 and a/d2 with 1 to 4; two sounds: both a/m.
	letters := []int{0, 6, 36, 216, 1296, 7776}
	want := 1 + letters[1] + letters[2] + letters[3] + letters[4] + letters[5] + 3*(letters[1]+letters[2]+letters[3]+letters[4]) + letters[1]*letters[1]
	if accepted != want {
		t.Errorf("%d texts are accepted, not %d", accepted, want)
	}
}
