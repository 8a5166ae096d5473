package orthography_test

import (
	"slices"
	"strconv"
	"strings"
	"testing"

	"anceps/api"
	"anceps/orthography"
	"anceps/sound"
)

var words = []string{"anywhere", "before", "start", "between", "not"}

// textOf returns the text of a valid orthography, as the chapter says.
func textOf(o api.Orthography) string {
	s := "orthography " + o.Name + "\n"
	for _, one := range o.Signs {
		sounds, _ := sound.Format(one.Sounds)
		s += one.Text + " " + sounds + " " + strconv.Itoa(one.Cost) + " " + words[one.Where] + "\n"
	}
	return s
}

// someSigns returns different valid signs of all kinds.
func someSigns() []api.Sign {
	var signs []api.Sign
	for i, text := range []string{"a", "e_", "abcd", "'", "/", "9", "x/x", "#(*)", "0"} {
		for j, sounds := range []string{"a/v3", "ae/d2", "t/m h/b", "abcdefgh/g _/l", "i/v1 u/v2"} {
			for where := range words {
				signs = append(signs, sign(text, sounds, (i*7+j*31+where*13)%100, where))
			}
		}
	}
	return signs
}

// P12.1: orthographies with their texts.
func TestTexts(t *testing.T) {
	signs := someSigns()
	list := []api.Orthography{orthography.Latin(), orthography.Greek(), with(signs[:120]...), with(signs[len(signs)-120:]...), with(many(120)...), {Name: "a-1-b", Signs: many(1)}}
	for _, s := range signs {
		list = append(list, with(s))
	}
	longest := many(120)
	for i := range longest {
		longest[i] = sign("zz"+longest[i].Text, "abcdefgh/v3 abcdefgh/v3", 99, api.Anywhere)
	}
	list = append(list, api.Orthography{Name: strings.Repeat("n", 20), Signs: longest})
	for i, o := range list {
		want := textOf(o)
		if s, e := orthography.Format(o); s != want || e != api.OK {
			t.Errorf("Format of %d: %d\n%s", i, e, s)
		}
		if back, line, e := orthography.Parse(want); !same(back, o) || line != 0 || e != api.OK {
			t.Errorf("Parse of %d: %v, %d, %d", i, back, line, e)
		}
	}
	if s, _ := orthography.Format(with(sign("su", "s/s u/g", 3, api.BeforeVowel), sign("h", "h/b", 0, api.AtStart))); s != "orthography some\nsu s/s u/g 3 before\nh h/b 0 start\n" {
		t.Errorf("%q", s)
	}
}

// P12.1: Format has the errors of Valid.
func TestFormatErrors(t *testing.T) {
	for i, o := range []api.Orthography{{}, with(), with(many(121)...), with(api.Sign{}), with(sign("A", "t/m", 0, 0)), with(sign("t", "t/m", 100, 0)), with(append(many(3), many(2)...)...), {Name: "A", Signs: many(1)}} {
		want := orthography.Valid(o)
		if s, e := orthography.Format(o); s != "" || e != want || e == api.OK {
			t.Errorf("row %d: %q, %d", i, s, e)
		}
	}
}

// P12.1: the errors of Parse with their lines.
func TestParseErrors(t *testing.T) {
	const head, good = "orthography some\n", "t t/m 0 anywhere\n"
	manySigns := func(n int) string { return textOf(with(many(n)...)) }
	for i, c := range []struct {
		s    string
		line int
		e    api.Errno
	}{
		{"", 1, api.ErrSyntax}, {"\n", 1, api.ErrSyntax}, {"orthography", 1, api.ErrSyntax}, {"orthography some", 1, api.ErrSyntax}, {"orthography \n" + good, 1, api.ErrSyntax}, {"orthography\n" + good, 1, api.ErrSyntax},
		{"orthography  some\n" + good, 1, api.ErrSyntax}, {"orthography some \n" + good, 1, api.ErrSyntax}, {"orthography a b\n" + good, 1, api.ErrSyntax}, {" " + head + good, 1, api.ErrSyntax}, {"Orthography some\n" + good, 1, api.ErrSyntax},
		{"orthographysome\n" + good, 1, api.ErrSyntax}, {good, 1, api.ErrSyntax}, {"\n" + head + good, 1, api.ErrSyntax}, {"orthography some\r\n" + good, 1, api.ErrSyntax},
		{"orthography Some\n" + good, 1, api.ErrSyntax}, {"orthography \xff\n" + good, 1, api.ErrSyntax}, {"orthography " + strings.Repeat("a", 21) + "\n" + good, 1, api.ErrSyntax},
		// The form of all lines comes ahead of what Valid finds.
		{"orthography Some\nt\n", 2, api.ErrSyntax}, {head + "T t/m 0 anywhere\n" + good + "\n", 4, api.ErrSyntax}, {manySigns(121) + "t", 123, api.ErrSyntax},
		{head, 1, api.ErrEmpty}, {manySigns(121), 1, api.ErrTooLarge}, {manySigns(120), 0, api.OK}, {head + strings.Repeat(good, 121), 1, api.ErrTooLarge},
		{head + good[:len(good)-1], 2, api.ErrSyntax}, {head + good + good[:len(good)-1], 3, api.ErrSyntax}, {head + "\n" + good, 2, api.ErrSyntax}, {head + good + "\n", 3, api.ErrSyntax}, {head + good + " ", 3, api.ErrSyntax},
		{head + good + head, 3, api.ErrSyntax}, {head + good, 0, api.OK}, {head + "t t/m 0 anywhere\r\n", 2, api.ErrSyntax},
		{head + " t/m 0 anywhere\n", 2, api.ErrSyntax}, {head + "t 0 anywhere\n", 2, api.ErrSyntax}, {head + "t  0 anywhere\n", 2, api.ErrSyntax}, {head + "t t/m  0 anywhere\n", 2, api.ErrSyntax}, {head + "t  t/m 0 anywhere\n", 2, api.ErrSyntax},
		{head + "t t/m 0  anywhere\n", 2, api.ErrSyntax}, {head + "t t/m 0 anywhere \n", 2, api.ErrSyntax}, {head + " t t/m 0 anywhere\n", 2, api.ErrSyntax}, {head + "t t/m 0\n", 2, api.ErrSyntax}, {head + "t t/m anywhere\n", 2, api.ErrSyntax},
		{head + "t t/m 0 \n", 2, api.ErrSyntax}, {head + "t t/m 0 Anywhere\n", 2, api.ErrSyntax}, {head + "t t/m 0 anywher\n", 2, api.ErrSyntax}, {head + "t t/m 0 0\n", 2, api.ErrSyntax}, {head + "t t/m 0 anywhere not\n", 2, api.ErrSyntax},
		{head + "t t/q 0 anywhere\n", 2, api.ErrSyntax}, {head + "t t/m1 0 anywhere\n", 2, api.ErrSyntax}, {head + "t t/m 00 anywhere\n", 2, api.ErrSyntax}, {head + "t t/m 01 anywhere\n", 2, api.ErrSyntax}, {head + "t t/m -1 anywhere\n", 2, api.ErrSyntax},
		{head + "t t/m 1000000 anywhere\n", 2, api.ErrSyntax}, {head + "t t/m x anywhere\n", 2, api.ErrSyntax}, {head + "t T/m 0 anywhere\n", 2, api.ErrSyntax}, {head + "t" + strings.Repeat(" t/m", 201) + " 0 anywhere\n", 2, api.ErrSyntax},
		{head + "t" + strings.Repeat(" t/m", 1001) + " 0 anywhere\n", 2, api.ErrSyntax}, {head + "t" + strings.Repeat(" t/m", 200) + " 0 anywhere\n", 2, api.ErrTooLarge},
		// What Valid finds, with the line of the sign.
		{head + "t t/m 999999 anywhere\n", 2, api.ErrRange}, {head + "t t/m 100 not\n", 2, api.ErrRange}, {head + "t t/m 99 not\n", 0, api.OK}, {head + "T t/m 0 anywhere\n", 2, api.ErrSyntax}, {head + "\xff t/m 0 anywhere\n", 2, api.ErrSyntax},
		{head + "\t t/m 0 anywhere\n", 2, api.ErrSyntax}, {head + "abcde t/m 0 anywhere\n", 2, api.ErrTooLarge}, {head + "t t/m t/m t/m 0 anywhere\n", 2, api.ErrTooLarge}, {head + "t t/m t/m 0 anywhere\n", 0, api.OK},
		{head + good + "x-x t/m 0 anywhere\n", 3, api.ErrSyntax}, {head + good + good, 3, api.ErrExists}, {head + good + "d d/m 0 start\n" + "t t/m 5 anywhere\n", 4, api.ErrExists}, {head + good + "t t/m 0 not\n", 0, api.OK},
		{head + good + "d d/m 100 start\n" + good, 3, api.ErrRange}, {manySigns(119) + "aa t/m 7 anywhere\n", 121, api.ErrExists},
	} {
		o, line, e := orthography.Parse(c.s)
		if line != c.line || e != c.e || e != api.OK && !same(o, api.Orthography{}) {
			t.Errorf("row %d, %q: %v, %d, %d", i, c.s, o, line, e)
		}
	}
}

// P12.1: both sides of the length of a text, which comes ahead of all other errors.
func TestLongTexts(t *testing.T) {
	for _, s := range []string{strings.Repeat("\n", 20001), "orthography " + strings.Repeat("a", 20000) + "\n", strings.Repeat("t t/m 0 anywhere\n", 10000), "orthography some\nt t/m 0 anywhere\n" + strings.Repeat(" ", 20000)} {
		if o, line, e := orthography.Parse(s); !same(o, api.Orthography{}) || line != 0 || e != api.ErrTooLarge {
			t.Errorf("%d bytes: %v, %d, %d", len(s), o, line, e)
		}
	}
	for _, n := range []int{20000, 20001} {
		s := "orthography some\n"
		s += strings.Repeat("a", n-len(s)-len(" t/m 0 not\n")) + " t/m 0 not\n"
		line, e := 2, api.ErrTooLarge
		if n > 20000 {
			line = 0
		}
		if _, at, is := orthography.Parse(s); len(s) != n || at != line || is != e {
			t.Errorf("%d bytes: %d, %d", len(s), at, is)
		}
	}
}

// P12.2: Parse leads back, and a text that it accepts is that of its result, whatever is changed in one.
func TestChangedTexts(t *testing.T) {
	const text = "orthography l-1\nqu qu/m 0 before\nsu s/s u/g 13 not\na_ a_/v2 1 anywhere\n"
	if o, _, e := orthography.Parse(text); e != api.OK || len(o.Signs) != 3 {
		t.Fatalf("%v, %d", o, e)
	}
	for at := range len(text) {
		for b := range 256 {
			byteAt := string([]byte{byte(b)})
			for _, s := range []string{text[:at] + byteAt + text[at+1:], text[:at] + byteAt + text[at:], text[:at] + text[at+1:]} {
				o, line, e := orthography.Parse(s)
				if e != api.OK {
					if line < 1 || line > 5 || !same(o, api.Orthography{}) {
						t.Fatalf("%q: %v, %d, %d", s, o, line, e)
					}
					continue
				}
				if again, e := orthography.Format(o); again != s || line != 0 || e != api.OK {
					t.Fatalf("%q: %v, whose text is %q, %d", s, o, again, e)
				}
			}
		}
	}
}

// P12.2: what can stand at the start or between vowels can stand before a vowel; nothing can stand before a vowel and not.
func TestPlaces(t *testing.T) {
	var o api.Orthography
	for where := range words {
		o.Signs = append(o.Signs, sign("t", "t/m", 0, where))
	}
	sounds := list("a/v3 ae/d2 t/m l/l n/n s/s x/x i/g h/b")
	around := [][]api.Sound{nil}
	for _, a := range sounds {
		around = append(around, []api.Sound{a})
		for _, b := range sounds {
			around = append(around, []api.Sound{a, b})
		}
	}
	for _, before := range around {
		for _, after := range around {
			var fits []bool
			for where := range words {
				fits = append(fits, orthography.Fits(o, where, before, after))
			}
			if (fits[api.AtStart] || fits[api.Between]) && !fits[api.BeforeVowel] || fits[api.BeforeVowel] == fits[api.NotBefore] || fits[api.AtStart] && fits[api.Between] || !fits[api.Anywhere] {
				t.Fatalf("behind %v, ahead of %v: %v", before, after, fits)
			}
		}
	}
}

// P1: no argument makes a function of this layer panic or change what it was given.
func TestNoPanic(t *testing.T) {
	signs := append(someSigns()[:20], api.Sign{}, api.Sign{Text: "\xff", Sounds: make([]api.Sound, 9), Cost: -1, Where: -1}, api.Sign{Where: 5})
	for n := range len(signs) + 1 {
		for _, name := range []string{"", "some", "\x00"} {
			o := api.Orthography{Name: name, Signs: signs[:n]}
			kept := api.Orthography{Name: name, Signs: slices.Clone(o.Signs)}
			before, after := list("a/v3 t/m"), list("t/m a/v3")
			orthography.Valid(o)
			for i := -2; i < n+2; i++ {
				orthography.Fits(o, i, before, after)
				orthography.Fits(o, i, nil, after)
			}
			orthography.Find(o, "a")
			orthography.Alphabet(o)
			orthography.Format(o)
			if !same(o, kept) || !slices.Equal(before, list("a/v3 t/m")) || !slices.Equal(after, list("t/m a/v3")) {
				t.Fatalf("an argument was changed: %v", kept)
			}
		}
	}
	for _, s := range []string{"\x00", strings.Repeat(" ", 20000), "orthography a\n" + strings.Repeat(" ", 19000), strings.Repeat("\n", 20000), "orthography a\n" + strings.Repeat("\n", 3), "orthography a\n  \n", "orthography a\n   \n", "orthography a\n    \n"} {
		if _, line, e := orthography.Parse(s); line == 0 || e != api.ErrSyntax {
			t.Errorf("%q: %d, %d", s, line, e)
		}
	}
}

// Results are new memory: changing one changes neither its other parts nor a later result.
func TestResultsAreNew(t *testing.T) {
	for i, make := range []func() api.Orthography{orthography.Latin, orthography.Greek, func() api.Orthography {
		o, _, _ := orthography.Parse("orthography some\nt t/m 0 not\nsu s/s u/g 3 before\nsu s/s u/g 3 not\n")
		return o
	}} {
		want, _ := orthography.Format(make())
		o := make()
		for j := range o.Signs {
			_ = append(o.Signs[j].Sounds, api.Sound{})
		}
		if s, e := orthography.Format(o); s != want || e != api.OK {
			t.Errorf("row %d: sounds that grow change others: %s", i, s)
		}
		for j := range o.Signs {
			clear(o.Signs[j].Sounds)
		}
		clear(o.Signs)
		if s, e := orthography.Format(make()); s != want || e != api.OK {
			t.Errorf("row %d: a later result was changed: %s", i, s)
		}
	}
	latin := orthography.Latin()
	clear(orthography.Find(latin, "i"))
	if l := orthography.Find(latin, "i"); !slices.Equal(l, []int{2, 22, 23}) {
		t.Errorf("i: %v", l)
	}
}
