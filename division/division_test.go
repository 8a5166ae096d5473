package division_test

import (
	"math"
	"slices"
	"strings"
	"testing"

	"anceps/api"
	"anceps/division"
	"anceps/orthography"
	"anceps/sound"
)

// list returns the sounds with a text.
func list(s string) []api.Sound {
	l, e := sound.Parse(s)
	if e != api.OK {
		panic(s)
	}
	return l
}

// read returns the orthography with these lines of signs, separated by semicolons.
func read(signs string) api.Orthography {
	o, line, e := orthography.Parse("orthography some\n" + strings.ReplaceAll(signs, ";", "\n") + "\n")
	if e != api.OK {
		panic(signs + ", line " + string(rune('0'+line)))
	}
	return o
}

// many returns so many signs with a text, which all stand everywhere and have the cost 0.
func many(text string, n int) []api.Sign {
	var signs []api.Sign
	for i := range n {
		name := string([]byte{byte('a' + i%26), byte('a' + i/26)})
		signs = append(signs, api.Sign{Text: text, Sounds: []api.Sound{{Kind: api.Mute, Text: name}}})
	}
	return signs
}

// with returns an orthography with the signs of these lists.
func with(lists ...[]api.Sign) api.Orthography {
	return api.Orthography{Name: "some", Signs: slices.Concat(lists...)}
}

// P13.1: the examples of the chapter.
func TestExamples(t *testing.T) {
	latin := orthography.Latin()
	for _, c := range []struct {
		word  string
		want  [][]int
		costs []int
	}{
		{"arma", [][]int{{0, 40, 41, 0}}, []int{2}},
		{"troiae", [][]int{{38, 40, 3, 23, 18}, {38, 40, 3, 2, 18}, {38, 40, 3, 23, 0, 1}, {38, 40, 3, 2, 0, 1}}, []int{2, 3, 3, 4}},
		{"iam", [][]int{{22, 0, 41}, {2, 0, 41}}, []int{1, 2}},
	} {
		got, e := division.All(latin, c.word)
		if e != api.OK || !slices.EqualFunc(got, c.want, slices.Equal[[]int]) {
			t.Errorf("All(%s): %v, %d", c.word, got, e)
		}
		if best, cost, e := division.Best(latin, c.word); e != api.OK || cost != c.costs[0] || !slices.Equal(best, c.want[0]) {
			t.Errorf("Best(%s): %v, %d, %d", c.word, best, cost, e)
		}
		if n, e := division.Count(latin, c.word); n != len(c.want) || e != api.OK {
			t.Errorf("Count(%s): %d, %d", c.word, n, e)
		}
		for i, d := range c.want {
			if cost, e := division.Check(latin, c.word, d); cost != c.costs[i] || e != api.OK {
				t.Errorf("Check(%s, %v): %d, %d", c.word, d, cost, e)
			}
		}
		if n, e := division.Reached(latin, c.word); n != len(c.word) || e != api.OK {
			t.Errorf("Reached(%s): %d, %d", c.word, n, e)
		}
	}
	for word, want := range map[string]int{"qat": 0, "armq": 3, "arqa": 2} {
		if n, e := division.Reached(latin, word); n != want || e != api.OK {
			t.Errorf("Reached(%s): %d, %d", word, n, e)
		}
		if l, e := division.All(latin, word); e != api.ErrUnknown || l != nil {
			t.Errorf("All(%s): %v, %d", word, l, e)
		}
	}
}

// P13.1: the offsets and the sounds of the examples.
func TestExamplesOfLists(t *testing.T) {
	latin := orthography.Latin()
	arma, troiae := []int{0, 40, 41, 0}, []int{38, 40, 3, 23, 18}
	if l, e := division.Offsets(latin, arma); e != api.OK || !slices.Equal(l, []int{0, 1, 2, 3}) {
		t.Errorf("Offsets: %v, %d", l, e)
	}
	if l, e := division.Offsets(latin, troiae); e != api.OK || !slices.Equal(l, []int{0, 1, 2, 3, 3, 4}) {
		t.Errorf("Offsets: %v, %d", l, e)
	}
	if l, e := division.Sounds(latin, troiae); e != api.OK || !slices.Equal(l, list("t/m r/l o/v3 i/g i/g ae/d2")) {
		t.Errorf("Sounds: %v, %d", l, e)
	}
	if s, e := division.Text(latin, troiae); s != "troiae" || e != api.OK {
		t.Errorf("Text: %q, %d", s, e)
	}
}

// P13.1: words with divisions that depend on where signs can stand, by a table.
func TestWords(t *testing.T) {
	latin, greek := orthography.Latin(), orthography.Greek()
	small := read("a a/v3 1 anywhere;t t/m 1 anywhere;t th/m 0 before;t d/m 0 start;t b/m 0 between;t g/m 0 not;at x/x 9 anywhere")
	pairs := read("y i/g a/v1 0 anywhere;r a/v1 r/l 0 anywhere;w u/g 0 start;w v/g 0 between;w o/v1 0 before;w f/m 0 not")
	for i, c := range []struct {
		o    api.Orthography
		word string
		want [][]int
	}{
		{latin, "i", [][]int{{2}}}, {latin, "ii", [][]int{{22, 2}, {2, 2}}}, {latin, "qui", [][]int{{28, 2}}}, {latin, "quu", [][]int{{28, 4}}}, {latin, "u", [][]int{{4}}},
		{latin, "uia", [][]int{{4, 23, 0}, {24, 2, 0}, {4, 2, 0}}}, {latin, "anguis", [][]int{{0, 42, 35, 4, 2, 43}, {0, 42, 29, 2, 43}}},
		{latin, "pax", [][]int{{37, 0, 44}}}, {latin, "eu", [][]int{{1, 4}, {21}}}, {latin, "a_", [][]int{{6}}}, {latin, "a_e", [][]int{{6, 1}}},
		{greek, "hos", [][]int{{39, 10, 34}}}, {greek, "psukhe_", [][]int{{23, 34, 2, 22, 11}, {35, 2, 22, 11}}},
		{small, "t", [][]int{{5}, {1}}}, {small, "ta", [][]int{{2, 0}, {3, 0}, {1, 0}}}, {small, "at", [][]int{{0, 5}, {0, 1}, {6}}}, {small, "ata", [][]int{{0, 2, 0}, {0, 4, 0}, {0, 1, 0}, {6, 0}}},
		{small, "tt", [][]int{{5, 5}, {1, 5}, {5, 1}, {1, 1}}},
		{pairs, "y", [][]int{{0}}}, {pairs, "wy", [][]int{{5, 0}}}, {pairs, "wr", [][]int{{2, 1}, {4, 1}}}, {pairs, "ywr", [][]int{{0, 3, 1}, {0, 4, 1}}}, {pairs, "rwr", [][]int{{1, 4, 1}}}, {pairs, "rw", [][]int{{1, 5}}}, {pairs, "ywy", [][]int{{0, 5, 0}}},
	} {
		got, e := division.All(c.o, c.word)
		if e != api.OK || !slices.EqualFunc(got, c.want, slices.Equal[[]int]) {
			t.Errorf("row %d, %s: %v, %d", i, c.word, got, e)
		}
	}
}

// P13.1: the errors of words, ahead of those of divisions and behind those of orthographies.
func TestWordErrors(t *testing.T) {
	latin := orthography.Latin()
	marks := with(many("'", 1), many("9", 1), many("|", 1), many("a", 1))
	twice := with(many("a", 1), many("a", 1))
	for i, c := range []struct {
		o            api.Orthography
		word         string
		known, other api.Errno // of All, Best and Count; of Reached
	}{
		{latin, "arma", api.OK, api.OK}, {latin, "", api.ErrEmpty, api.ErrEmpty}, {latin, "q", api.ErrUnknown, api.OK}, {latin, "armq", api.ErrUnknown, api.OK}, {latin, "qarm", api.ErrUnknown, api.OK},
		{latin, strings.Repeat("t", 16), api.OK, api.OK}, {latin, strings.Repeat("t", 17), api.ErrTooLarge, api.ErrTooLarge}, {latin, strings.Repeat("T", 17), api.ErrTooLarge, api.ErrTooLarge},
		{latin, strings.Repeat("t", 15) + "T", api.ErrSyntax, api.ErrSyntax}, {latin, "Arma", api.ErrSyntax, api.ErrSyntax}, {latin, "ar ma", api.ErrSyntax, api.ErrSyntax}, {latin, "arma.", api.ErrSyntax, api.ErrSyntax},
		{latin, " ", api.ErrSyntax, api.ErrSyntax}, {latin, "\n", api.ErrSyntax, api.ErrSyntax}, {latin, "a\x00", api.ErrSyntax, api.ErrSyntax}, {latin, "\xff", api.ErrSyntax, api.ErrSyntax}, {latin, "\u0101", api.ErrSyntax, api.ErrSyntax}, {latin, "qQ", api.ErrSyntax, api.ErrSyntax},
		{marks, "'9|a", api.OK, api.OK}, {marks, "+", api.ErrUnknown, api.OK}, {marks, "[", api.ErrSyntax, api.ErrSyntax},
		{api.Orthography{}, "arma", api.ErrSyntax, api.ErrSyntax}, {api.Orthography{}, "", api.ErrSyntax, api.ErrSyntax}, {api.Orthography{Name: "a"}, "A", api.ErrEmpty, api.ErrEmpty}, {twice, "", api.ErrExists, api.ErrExists},
		{twice, "a", api.ErrExists, api.ErrExists}, {with(many("a", 121)), strings.Repeat("a", 17), api.ErrTooLarge, api.ErrTooLarge}, {with(many("A", 1)), "", api.ErrSyntax, api.ErrSyntax},
	} {
		if l, e := division.All(c.o, c.word); e != c.known || (l == nil) != (e != api.OK) {
			t.Errorf("All, row %d: %v, %d", i, l, e)
		}
		if l, cost, e := division.Best(c.o, c.word); e != c.known || e != api.OK && (l != nil || cost != 0) {
			t.Errorf("Best, row %d: %v, %d, %d", i, l, cost, e)
		}
		if n, e := division.Count(c.o, c.word); e != c.known || (n == 0) != (e != api.OK) {
			t.Errorf("Count, row %d: %d, %d", i, n, e)
		}
		if n, e := division.Reached(c.o, c.word); e != c.other || e != api.OK && n != 0 {
			t.Errorf("Reached, row %d: %d, %d", i, n, e)
		}
		want := c.other
		if want == api.OK {
			want = api.ErrRange
		}
		if cost, e := division.Check(c.o, c.word, []int{-1}); e != want || cost != 0 {
			t.Errorf("Check, row %d: %d, %d", i, cost, e)
		}
	}
}

// P13.1: every byte is a letter of words or none, at every place.
func TestBytes(t *testing.T) {
	latin := orthography.Latin()
	for b := range 256 {
		want := api.ErrSyntax
		if b > ' ' && b <= '~' && !strings.ContainsRune(` .,;:!?"-[]<>{}`, rune(b)) && (b < 'A' || b > 'Z') {
			want = api.OK
		}
		for at := range 3 {
			word := []byte("aaa")
			word[at] = byte(b)
			if _, e := division.Reached(latin, string(word)); e != want {
				t.Errorf("Reached(%q): %d", word, e)
			}
		}
	}
}

// P13.1: a word has at most 200 divisions; there can be very many more, and many beginnings that lead nowhere.
func TestNumbers(t *testing.T) {
	fifteen := strings.Repeat("a", 15)
	vowels := "a a/v1 0 not;a a/v2 0 not;a a/v3 0 not;a e/v1 0 not;a e/v2 0 not;a e/v3 0 not"
	for i, c := range []struct {
		o    api.Orthography
		word string
		n    int
		e    api.Errno
	}{
		{with(many("a", 20), many("b", 10)), "ab", 200, api.OK}, {with(many("a", 67), many("b", 3)), "ab", 0, api.ErrTooLarge}, {with(many("a", 99), many("b", 2), many("ab", 2)), "ab", 200, api.OK},
		{with(many("a", 99), many("b", 2), many("ab", 3)), "ab", 0, api.ErrTooLarge}, {with(many("a", 120)), "a", 120, api.OK}, {with(many("a", 120)), "aa", 0, api.ErrTooLarge},
		{with(many("a", 1), many("b", 119)), "aaab", 119, api.OK}, {with(many("a", 120)), fifteen + "a", 0, api.ErrTooLarge}, {with(many("a", 120)), fifteen + "b", 0, api.ErrUnknown},
		{with(many("a", 119), many("b", 1)), fifteen + "b", 0, api.ErrTooLarge}, {with(many("a", 2)), "aaaaaaa", 128, api.OK}, {with(many("a", 2)), "aaaaaaaa", 0, api.ErrTooLarge},
		{with(many("a", 1), many("aa", 1), many("aaa", 1), many("aaaa", 1)), "aaaaaaaa", 108, api.OK}, {with(many("a", 1), many("aa", 1), many("aaa", 1), many("aaaa", 1)), "aaaaaaaaa", 0, api.ErrTooLarge},
		{read(vowels + ";t t/m 0 start"), fifteen + "t", 0, api.ErrUnknown}, {read(vowels), "a", 6, api.OK}, {read(vowels), fifteen, 0, api.ErrUnknown},
		{read(vowels + ";t t/m 0 not"), "at", 6, api.OK}, {read(vowels + ";a t/m 0 before;a t/m 0 start;a t/m 0 between"), "aaa", 72, api.OK},
	} {
		if n, e := division.Count(c.o, c.word); n != c.n || e != c.e {
			t.Errorf("Count, row %d: %d, %d", i, n, e)
		}
		l, e := division.All(c.o, c.word)
		if len(l) != c.n || e != c.e {
			t.Errorf("All, row %d: %d, %d", i, len(l), e)
		}
		if best, cost, e := division.Best(c.o, c.word); e != c.e || cost != 0 || e == api.OK && !slices.Equal(best, l[0]) || e != api.OK && best != nil {
			t.Errorf("Best, row %d: %v, %d, %d", i, best, cost, e)
		}
	}
}

// P13.1: the errors of Check in their order.
func TestCheckErrors(t *testing.T) {
	latin := orthography.Latin()
	long := make([]int, 1000)
	for i, c := range []struct {
		word string
		list []int
		cost int
		e    api.Errno
	}{
		{"iam", []int{2, 0, 41}, 2, api.OK}, {"iam", []int{23, 0, 41}, 0, api.ErrRefused}, {"iam", []int{22, 0, 46}, 0, api.ErrInvalid}, {"iam", []int{22, 0, 47}, 0, api.ErrRange}, {"iam", []int{22, 0, -1}, 0, api.ErrRange},
		{"iam", nil, 0, api.ErrInvalid}, {"iam", []int{}, 0, api.ErrInvalid}, {"iam", []int{22, 0}, 0, api.ErrInvalid}, {"iam", []int{22, 0, 41, 0}, 0, api.ErrInvalid}, {"iam", []int{0, 22, 41}, 0, api.ErrInvalid},
		{"iam", []int{0, 22, 41, math.MaxInt}, 0, api.ErrRange}, {"iam", []int{math.MinInt, 0, 41}, 0, api.ErrRange}, {"iam", []int{23, 46}, 0, api.ErrInvalid}, {"iam", []int{23, 0, 41, 47}, 0, api.ErrRange},
		{"iam", long, 0, api.ErrInvalid}, {"iam", append(slices.Clone(long), 47), 0, api.ErrRange}, {"quu", []int{28, 4}, 1, api.OK}, {"quu", []int{28, 25}, 0, api.ErrRefused}, {"quu", []int{28, 24}, 0, api.ErrRefused},
		{"qui", []int{28, 22}, 0, api.ErrRefused}, {"i", []int{2}, 1, api.OK}, {"i", []int{22}, 0, api.ErrRefused}, {"ae", []int{18}, 1, api.OK}, {"ae", []int{0, 1}, 2, api.OK}, {"eu", []int{21}, 3, api.OK}, {"eu", []int{21, 21}, 0, api.ErrInvalid},
		{"sua", []int{30, 0}, 4, api.OK}, {"sua", []int{43, 25, 0}, 0, api.ErrRefused}, {"sua", []int{43, 24, 0}, 0, api.ErrRefused}, {"aua", []int{0, 25, 0}, 2, api.OK}, {"aua", []int{19, 0}, 2, api.OK}, {"aua", []int{0, 24, 0}, 0, api.ErrRefused},
		{"", nil, 0, api.ErrEmpty}, {"", []int{-1}, 0, api.ErrEmpty}, {"Iam", []int{-1}, 0, api.ErrSyntax}, {"iam.", []int{22, 0, 41}, 0, api.ErrSyntax}, {strings.Repeat("a", 17), make([]int, 17), 0, api.ErrTooLarge}, {strings.Repeat("a", 16), make([]int, 16), 16, api.OK},
	} {
		if cost, e := division.Check(latin, c.word, c.list); cost != c.cost || e != c.e {
			t.Errorf("row %d: %d, %d", i, cost, e)
		}
	}
	if cost, e := division.Check(api.Orthography{Name: "a"}, "", []int{-1}); cost != 0 || e != api.ErrEmpty {
		t.Errorf("no orthography: %d, %d", cost, e)
	}
}

// P13.1: the greatest costs, and those of lists that differ in one sign.
func TestCosts(t *testing.T) {
	o := read("a a/v1 99 anywhere;a a/v2 98 anywhere;a a/v3 0 not;b b/m 7 anywhere;ab x/x 5 anywhere")
	if cost, e := division.Check(o, strings.Repeat("a", 16), make([]int, 16)); cost != 1584 || e != api.OK {
		t.Errorf("Check: %d, %d", cost, e)
	}
	got, e := division.All(o, "aba")
	want := [][]int{{4, 2}, {2, 3, 2}, {4, 1}, {4, 0}, {1, 3, 2}, {2, 3, 1}, {0, 3, 2}, {2, 3, 0}, {1, 3, 1}, {0, 3, 1}, {1, 3, 0}, {0, 3, 0}}
	if e != api.OK || !slices.EqualFunc(got, want, slices.Equal[[]int]) {
		t.Errorf("All: %v, %d", got, e)
	}
}
