package orthography_test

import (
	"math"
	"slices"
	"strings"
	"testing"

	"anceps/api"
	"anceps/orthography"
	"anceps/sound"
)

// list returns the sounds with a text.
func list(s string) []api.Sound {
	l, e := sound.Parse(s)
	if e != api.OK {
		panic(s)
	}
	return l
}

// sign returns a sign whose sounds have a text.
func sign(text, sounds string, cost, where int) api.Sign {
	return api.Sign{Text: text, Sounds: list(sounds), Cost: cost, Where: where}
}

// with returns an orthography with these signs.
func with(signs ...api.Sign) api.Orthography {
	return api.Orthography{Name: "some", Signs: signs}
}

// many returns so many different signs.
func many(n int) []api.Sign {
	var signs []api.Sign
	for i := range n {
		signs = append(signs, sign(string([]byte{byte('a' + i%26), byte('a' + i/26)}), "t/m", 0, api.Anywhere))
	}
	return signs
}

func sameSign(a, b api.Sign) bool {
	return a.Text == b.Text && a.Cost == b.Cost && a.Where == b.Where && slices.Equal(a.Sounds, b.Sounds)
}

func same(a, b api.Orthography) bool {
	return a.Name == b.Name && slices.EqualFunc(a.Signs, b.Signs, sameSign)
}

// isLetter reports whether a byte is a letter of a line and no capital, as chapter 1 says.
func isLetter(b byte) bool {
	return b > ' ' && b <= '~' && !strings.ContainsRune(` .,;:!?"-[]<>{}`, rune(b)) && (b < 'A' || b > 'Z')
}

// P12.1: the errors of orthographies and of their signs, each alone, and both sides of the limits.
func TestValid(t *testing.T) {
	t1 := sign("t", "t/m", 0, api.Anywhere)
	large, capital, kind := api.Sound{Kind: api.Mute, Text: "ttttttttt"}, api.Sound{Kind: api.Mute, Text: "T"}, api.Sound{Kind: 10, Text: "t"}
	for i, c := range []struct {
		o api.Orthography
		e api.Errno
	}{
		{with(t1), api.OK}, {orthography.Latin(), api.OK}, {orthography.Greek(), api.OK}, {with(many(120)...), api.OK},
		{api.Orthography{Name: "a-1", Signs: []api.Sign{t1}}, api.OK}, {api.Orthography{Name: strings.Repeat("a", 20), Signs: []api.Sign{t1}}, api.OK},
		{api.Orthography{}, api.ErrSyntax}, {api.Orthography{Signs: []api.Sign{t1}}, api.ErrSyntax}, {api.Orthography{Name: "Latin", Signs: []api.Sign{t1}}, api.ErrSyntax},
		{api.Orthography{Name: "a-", Signs: []api.Sign{t1}}, api.ErrSyntax}, {api.Orthography{Name: strings.Repeat("a", 21), Signs: []api.Sign{t1}}, api.ErrSyntax},
		{api.Orthography{Name: "1", Signs: many(121)}, api.ErrSyntax},
		{with(), api.ErrEmpty}, {with(many(121)...), api.ErrTooLarge}, {with(make([]api.Sign, 121)...), api.ErrTooLarge}, {with(api.Sign{}), api.ErrEmpty},
		{with(sign("abcd", "t/m", 0, 0)), api.OK}, {with(sign("abcde", "t/m", 0, 0)), api.ErrTooLarge}, {with(sign("", "t/m", 0, 0)), api.ErrEmpty},
		{with(sign("th", "t/m h/b", 99, api.NotBefore)), api.OK}, {with(sign("th", "", 0, 0)), api.ErrEmpty}, {with(sign("th", "t/m h/b t/m", 0, 0)), api.ErrTooLarge},
		{with(sign("t", "t/m", 100, 0)), api.ErrRange}, {with(sign("t", "t/m", -1, 0)), api.ErrRange}, {with(sign("t", "t/m", 0, -1)), api.ErrRange}, {with(sign("t", "t/m", 0, 5)), api.ErrRange},
		{with(sign("t", "t/m", math.MaxInt, 0)), api.ErrRange}, {with(sign("t", "t/m", 0, math.MinInt)), api.ErrRange},
		{with(api.Sign{Text: "t", Sounds: []api.Sound{large}}), api.ErrTooLarge}, {with(api.Sign{Text: "t", Sounds: []api.Sound{capital}}), api.ErrSyntax}, {with(api.Sign{Text: "t", Sounds: []api.Sound{kind}}), api.ErrInvalid},
		{with(api.Sign{Text: "t", Sounds: []api.Sound{{Kind: api.Mute}}}), api.ErrEmpty}, {with(api.Sign{Text: "t", Sounds: []api.Sound{{Kind: api.Vowel, Text: "t"}}}), api.ErrRange},
		{with(api.Sign{Text: "t", Sounds: []api.Sound{t1.Sounds[0], kind}}), api.ErrInvalid}, {with(api.Sign{Text: "t", Sounds: []api.Sound{capital, kind}}), api.ErrSyntax}, {with(api.Sign{Text: "t", Sounds: []api.Sound{kind, capital}}), api.ErrInvalid},
		{with(t1, t1), api.ErrExists}, {with(t1, sign("t", "t/m", 9, 0)), api.ErrExists}, {with(t1, sign("t", "t/m", 0, 1)), api.OK}, {with(t1, sign("t", "d/m", 0, 0)), api.OK},
		{with(t1, sign("d", "t/m", 0, 0)), api.OK}, {with(t1, sign("t", "t/m t/m", 0, 0)), api.OK}, {with(sign("t", "t/m h/b", 0, 0), sign("t", "h/b t/m", 0, 0)), api.OK},
		{with(t1, sign("d", "d/m", 0, 0), sign("g", "g/m", 0, 0), t1), api.ErrExists}, {with(t1, sign("d", "d/m", 0, 0), sign("d", "d/m", 1, 0)), api.ErrExists},
		{with(append(many(119), many(120)[119])...), api.OK}, {with(append(many(119), many(1)[0])...), api.ErrExists},
	} {
		if e := orthography.Valid(c.o); e != c.e {
			t.Errorf("row %d: %d", i, e)
		}
	}
}

// P12.1: the errors of signs, in all their combinations; a sign with an error comes ahead of all later ones.
func TestOrderOfErrors(t *testing.T) {
	t1, bad := list("t/m")[0], api.Sound{Kind: api.Mute, Quantity: 1, Text: "t"}
	for _, text := range []string{"", "t", "T", "abcd", "abc.", "abcde", "abcd "} {
		for _, sounds := range [][]api.Sound{nil, {t1}, {bad}, {t1, t1}, {t1, {}}, {bad, {}}, {t1, t1, t1}, {bad, t1, t1}} {
			for _, cost := range []int{-1, 0, 99, 100} {
				for _, where := range []int{-1, 0, 4, 5} {
					want := errorOf(text, sounds, cost, where)
					s := api.Sign{Text: text, Sounds: sounds, Cost: cost, Where: where}
					if e := orthography.Valid(with(s)); e != want {
						t.Fatalf("%v: %d, not %d", s, e, want)
					}
					twice := want
					if want == api.OK {
						twice = api.ErrExists
					}
					if e := orthography.Valid(with(s, s, api.Sign{})); e != twice {
						t.Fatalf("%v, twice: %d", s, e)
					}
				}
			}
		}
	}
}

// errorOf returns the error of a sign, as the chapter says.
func errorOf(text string, sounds []api.Sound, cost, where int) api.Errno {
	if text == "" {
		return api.ErrEmpty
	}
	if len(text) > 4 {
		return api.ErrTooLarge
	}
	for i := range len(text) {
		if !isLetter(text[i]) {
			return api.ErrSyntax
		}
	}
	if len(sounds) == 0 {
		return api.ErrEmpty
	}
	if len(sounds) > 2 {
		return api.ErrTooLarge
	}
	for _, s := range sounds {
		if e := sound.Valid(s); e != api.OK {
			return e
		}
	}
	if cost < 0 || cost > 99 || where < 0 || where > 4 {
		return api.ErrRange
	}
	return api.OK
}

// P12.1: every byte at every place of the text of a sign.
func TestBytes(t *testing.T) {
	for b := range 256 {
		want := api.ErrSyntax
		if isLetter(byte(b)) {
			want = api.OK
		}
		for ahead := range 4 {
			for behind := range 4 - ahead {
				text := strings.Repeat("a", ahead) + string([]byte{byte(b)}) + strings.Repeat("b", behind)
				if e := orthography.Valid(with(sign(text, "t/m", 0, 0))); e != want {
					t.Errorf("%q: %d", text, e)
				}
			}
		}
	}
}

// P12.1: where signs fit, by a table: the columns are no sounds, a consonant, a nucleus, both in either order.
func TestFits(t *testing.T) {
	around := [][]api.Sound{nil, list("t/m"), list("ae/d2"), list("a/v1 h/b"), list("h/b a/v3"), {{}}, list("i/g i/g")}
	startsVowel := []bool{false, false, true, true, false, false, false}
	endsVowel := []bool{false, false, true, false, true, false, false}
	for where := -2; where <= 7; where++ {
		o := with(sign("x", "x/x", 0, 0), sign("t", "t/m", 0, where), sign("y", "y/v3", 0, 0))
		for i, before := range around {
			for j, after := range around {
				want := false
				switch where {
				case 0:
					want = true
				case 1:
					want = startsVowel[j]
				case 2:
					want = i == 0 && startsVowel[j]
				case 3:
					want = endsVowel[i] && startsVowel[j]
				case 4:
					want = !startsVowel[j]
				}
				if is := orthography.Fits(o, 1, before, after); is != want {
					t.Errorf("%d, behind %v, ahead of %v: %v", where, before, after, is)
				}
				for _, none := range []int{-1, 3, math.MinInt, math.MaxInt} {
					if orthography.Fits(o, none, before, after) {
						t.Errorf("the sign %d fits", none)
					}
				}
				if orthography.Fits(api.Orthography{}, 0, before, after) {
					t.Errorf("a sign of no signs fits")
				}
			}
		}
	}
}

// P12.1: the chapter's examples: the three signs i, and the sign qu.
func TestExamples(t *testing.T) {
	latin := orthography.Latin()
	if l := orthography.Find(latin, "i"); !slices.Equal(l, []int{2, 22, 23}) {
		t.Errorf("i: %v", l)
	}
	if l := orthography.Find(latin, "qu"); !slices.Equal(l, []int{28}) {
		t.Errorf("qu: %v", l)
	}
	a, tm := list("a/v3"), list("t/m")
	for i, c := range []struct {
		sign          int
		before, after []api.Sound
		want          bool
	}{
		{28, nil, a, true}, {28, nil, tm, false}, {28, nil, nil, false}, {28, a, a, true},
		{2, nil, nil, true}, {2, a, tm, true}, {22, nil, a, true}, {22, nil, tm, false}, {22, nil, nil, false}, {22, a, a, false}, {22, tm, a, false},
		{23, a, a, true}, {23, nil, a, false}, {23, tm, a, false}, {23, a, tm, false}, {23, a, nil, false},
	} {
		if is := orthography.Fits(latin, c.sign, c.before, c.after); is != c.want {
			t.Errorf("row %d: %v", i, is)
		}
	}
	if s := orthography.Alphabet(with(sign("ph", "ph/m", 0, 0), sign("e_", "e_/v2", 1, 0))); s != "_ehp" {
		t.Errorf("the alphabet is %q", s)
	}
}

// P12.1: Find and Alphabet of any orthographies.
func TestFindAndAlphabet(t *testing.T) {
	any := with(sign("", "", -1, 9), sign("\xff\x00", "t/m", 0, 0), sign("zA", "t/m", 0, 0), sign("za", "t/m", 0, 0), sign("", "t/m", 0, 0), sign("zA", "t/m", 0, 0))
	for text, want := range map[string][]int{"": {0, 4}, "\xff\x00": {1}, "zA": {2, 5}, "za": {3}, "z": nil, "A": nil, "\xff": nil, "zAz": nil} {
		if l := orthography.Find(any, text); !slices.Equal(l, want) {
			t.Errorf("%q: %v", text, l)
		}
	}
	if s := orthography.Alphabet(any); s != "\x00Aaz\xff" {
		t.Errorf("the alphabet is %q", s)
	}
	if s := orthography.Alphabet(api.Orthography{}); s != "" || len(orthography.Find(api.Orthography{}, "")) != 0 {
		t.Errorf("no signs: %q", s)
	}
	all := make([]api.Sign, 256)
	var bytes []byte
	for i := range all {
		all[i].Text = string([]byte{byte(255 - i), byte(255 - i)})
		bytes = append(bytes, byte(i))
	}
	if s := orthography.Alphabet(with(all...)); s != string(bytes) {
		t.Errorf("the alphabet of all bytes is %q", s)
	}
	if s := orthography.Alphabet(orthography.Latin()); s != "^_abcdefghijklmnopqrstuvxyz" {
		t.Errorf("Latin: %q", s)
	}
	if s := orthography.Alphabet(orthography.Greek()); s != "^_abdeghiklmnoprstuxz" {
		t.Errorf("Greek: %q", s)
	}
}

// P12.1: signs of the fixed orthographies, whose indices the chapter's texts give.
func TestFixed(t *testing.T) {
	latin, greek := orthography.Latin(), orthography.Greek()
	if latin.Name != "latin" || len(latin.Signs) != 47 || greek.Name != "greek" || len(greek.Signs) != 40 {
		t.Fatalf("%s has %d signs, %s %d", latin.Name, len(latin.Signs), greek.Name, len(greek.Signs))
	}
	for i, want := range map[int]api.Sign{
		0: sign("a", "a/v3", 1, 0), 11: sign("y_", "y_/v2", 1, 0), 12: sign("a^", "a^/v1", 1, 0), 18: sign("ae", "ae/d2", 1, 0), 21: sign("eu", "eu/d2", 3, 0), 22: sign("i", "i/g", 0, api.AtStart),
		23: sign("i", "i/g i/g", 0, api.Between), 24: sign("u", "u/g", 0, api.AtStart), 25: sign("u", "u/g", 0, api.Between), 27: sign("v", "v/g", 0, 0), 28: sign("qu", "qu/m", 0, api.BeforeVowel),
		29: sign("gu", "gu/m", 2, api.BeforeVowel), 30: sign("su", "s/s u/g", 3, api.BeforeVowel), 31: sign("b", "b/m", 0, 0), 39: sign("l", "l/l", 0, 0), 44: sign("x", "x/x", 0, 0), 46: sign("h", "h/b", 0, 0),
	} {
		if !sameSign(latin.Signs[i], want) {
			t.Errorf("Latin, %d: %v", i, latin.Signs[i])
		}
	}
	for i, want := range map[int]api.Sign{
		0: sign("a", "a/v3", 1, 0), 9: sign("e", "e/v1", 1, 0), 10: sign("o", "o/v1", 1, 0), 12: sign("o_", "o_/v2", 1, 0), 13: sign("ai", "ai/d2", 1, 0), 19: sign("ui", "ui/d2", 1, 0), 20: sign("ph", "ph/m", 0, 0),
		29: sign("rh", "rh/l", 0, 0), 35: sign("ps", "ps/x", 0, 0), 39: sign("h", "h/b", 0, api.AtStart),
	} {
		if !sameSign(greek.Signs[i], want) {
			t.Errorf("Greek, %d: %v", i, greek.Signs[i])
		}
	}
}
