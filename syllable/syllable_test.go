package syllable_test

import (
	"math"
	"slices"
	"strings"
	"testing"

	"anceps/api"
	"anceps/sound"
	"anceps/syllable"
)

// of returns the sounds with a text.
func of(text string) []api.Sound {
	l, e := sound.Parse(text)
	if e != api.OK {
		panic(text)
	}
	return l
}

// times returns the sounds with a text, so many times.
func times(n int, text string) []api.Sound {
	return slices.Repeat(of(text), n)
}

// syl returns a syllable.
func syl(from, to, nucleus, word int, ends bool) api.Syllable {
	return api.Syllable{From: from, To: to, Nucleus: nucleus, Word: word, Ends: ends}
}

func same(a, b api.Cluster) bool {
	return slices.Equal(a.Sounds, b.Sounds) && slices.Equal(a.Breaks, b.Breaks)
}

func sameLists(a, b [][]int) bool {
	return slices.EqualFunc(a, b, slices.Equal[[]int])
}

// A line has sounds and breaks.
type line struct {
	sounds []api.Sound
	breaks []int
}

// P15.1: the examples of the chapter, and others like them.
func TestDivideAndText(t *testing.T) {
	for _, c := range []struct {
		sounds string
		breaks []int
		want   []api.Syllable
		text   string
	}{
		{"a/v3 r/l m/n a/v3", nil, []api.Syllable{syl(0, 2, 0, 0, false), syl(2, 4, 3, 0, true)}, "ar.ma"},
		{"e/v3 t/m a/v3 l/l t/m o/v3", []int{2}, []api.Syllable{syl(0, 1, 0, 0, true), syl(1, 4, 2, 1, false), syl(4, 6, 5, 1, true)}, "e.t_al.to"},
		{"n/n o/v3 n/n t/m e/v3", []int{3}, []api.Syllable{syl(0, 3, 1, 0, true), syl(3, 5, 4, 1, true)}, "non te"},
		// One syllable takes all sounds.
		{"a/v1", nil, []api.Syllable{syl(0, 1, 0, 0, true)}, "a"},
		{"s/s t/m r/l ae/d2 x/x t/m", nil, []api.Syllable{syl(0, 6, 3, 0, true)}, "straext"},
		{"t/m a/v1 t/m", []int{1, 2}, []api.Syllable{syl(0, 3, 1, 1, true)}, "t_a_t"},
		// What stands between two nuclei: nothing, one sound, a mute and a liquid, a double one, breaths.
		{"a/v1 e/v2", nil, []api.Syllable{syl(0, 1, 0, 0, false), syl(1, 2, 1, 0, true)}, "a.e"},
		{"a/v1 e/v2", []int{1}, []api.Syllable{syl(0, 1, 0, 0, true), syl(1, 2, 1, 1, true)}, "a e"},
		{"a/v1 t/m e/v2", nil, []api.Syllable{syl(0, 1, 0, 0, false), syl(1, 3, 2, 0, true)}, "a.te"},
		{"a/v1 t/m r/l e/v2", nil, []api.Syllable{syl(0, 1, 0, 0, false), syl(1, 4, 3, 0, true)}, "a.tre"},
		{"a/v1 t/m r/l e/v2", []int{1}, []api.Syllable{syl(0, 1, 0, 0, true), syl(1, 4, 3, 1, true)}, "a tre"},
		{"a/v1 t/m r/l e/v2", []int{2}, []api.Syllable{syl(0, 2, 0, 0, true), syl(2, 4, 3, 1, true)}, "at re"},
		{"a/v1 t/m r/l e/v2", []int{3}, []api.Syllable{syl(0, 1, 0, 0, true), syl(1, 4, 3, 1, true)}, "a.tr_e"},
		{"a/v1 t/m r/l e/v2", []int{1, 3}, []api.Syllable{syl(0, 2, 0, 0, true), syl(2, 4, 3, 2, true)}, "a_t.r_e"},
		{"a/v1 x/x e/v2", nil, []api.Syllable{syl(0, 2, 0, 0, false), syl(2, 3, 2, 0, true)}, "ax.e"},
		{"a/v1 x/x e/v2", []int{1}, []api.Syllable{syl(0, 2, 0, 0, true), syl(2, 3, 2, 1, true)}, "a_x.e"},
		{"a/v1 h/b e/v2", []int{1}, []api.Syllable{syl(0, 1, 0, 0, true), syl(1, 3, 2, 1, true)}, "a he"},
		{"a/v1 n/n t/m h/b e/v2", []int{2}, []api.Syllable{syl(0, 2, 0, 0, true), syl(2, 5, 4, 1, true)}, "an the"},
		{"a/v1 n/n s/s t/m r/l e/v2", nil, []api.Syllable{syl(0, 4, 0, 0, false), syl(4, 6, 5, 0, true)}, "anst.re"},
		// Words of which no sound is left, at the beginning, within and at the end.
		{"a/v1 e/v2", []int{0, 0, 1, 1, 1, 2, 2}, []api.Syllable{syl(0, 1, 0, 2, true), syl(1, 2, 1, 5, true)}, "a e"},
		{"a/v1", []int{0}, []api.Syllable{syl(0, 1, 0, 1, true)}, "a"},
		{"a/v1", []int{1}, []api.Syllable{syl(0, 1, 0, 0, true)}, "a"},
		// Words without a nucleus.
		{"s/s a/v1 t/m t/m e/v1 s/s", []int{1, 3, 5}, []api.Syllable{syl(0, 3, 1, 1, true), syl(3, 6, 4, 2, true)}, "s_at te_s"},
		// A low line can be a part of a sound, too.
		{"a_/v2 t/m e^/v1", []int{2}, []api.Syllable{syl(0, 1, 0, 0, true), syl(1, 3, 2, 1, true)}, "a_.t_e^"},
		{"th/m oe/d2 b'/m i/g i/g au/d2", nil, []api.Syllable{syl(0, 4, 1, 0, false), syl(4, 6, 5, 0, true)}, "thoeb'i.iau"},
	} {
		l := of(c.sounds)
		if got, e := syllable.Divide(l, c.breaks); !slices.Equal(got, c.want) || e != api.OK {
			t.Errorf("%q %v: %v, %d", c.sounds, c.breaks, got, e)
		}
		if text, e := syllable.Text(l, c.breaks); text != c.text || e != api.OK {
			t.Errorf("%q %v: %q, %d", c.sounds, c.breaks, text, e)
		}
		if !syllable.Check(l, c.breaks, c.want) {
			t.Errorf("%q %v: Check does not accept the syllables", c.sounds, c.breaks)
		}
	}
}

// P15.1: Check accepts nothing but the result of Divide.
func TestCheck(t *testing.T) {
	l, breaks := of("e/v3 t/m a/v3 l/l t/m o/v3"), []int{2}
	right := []api.Syllable{syl(0, 1, 0, 0, true), syl(1, 4, 2, 1, false), syl(4, 6, 5, 1, true)}
	if !syllable.Check(l, breaks, right) {
		t.Error("the right list is not accepted")
	}
	for i := range right {
		for j, change := range []func(s *api.Syllable){
			func(s *api.Syllable) { s.From-- }, func(s *api.Syllable) { s.To++ }, func(s *api.Syllable) { s.Nucleus++ },
			func(s *api.Syllable) { s.Word++ }, func(s *api.Syllable) { s.Ends = !s.Ends }, func(s *api.Syllable) { *s = api.Syllable{} },
		} {
			wrong := slices.Clone(right)
			change(&wrong[i])
			if syllable.Check(l, breaks, wrong) {
				t.Errorf("syllable %d, change %d: accepted", i, j)
			}
		}
		if syllable.Check(l, breaks, slices.Delete(slices.Clone(right), i, i+1)) || syllable.Check(l, breaks, slices.Insert(slices.Clone(right), i, right[i])) {
			t.Errorf("syllable %d: accepted without it, or with it twice", i)
		}
	}
	if syllable.Check(l, breaks, nil) || syllable.Check(l, nil, right) || syllable.Check(l[:5], breaks, right) {
		t.Error("no list, or that of another line, is accepted")
	}
	// With an error nothing is accepted, not even the empty list that Divide returns.
	for i, c := range []line{{nil, nil}, {of("t/m"), nil}, {l, []int{7}}, {l, []int{2, 1}}, {times(201, "a/v1"), nil}, {make([]api.Sound, 1), nil}} {
		for _, list := range [][]api.Syllable{nil, {}, {{}}, right} {
			if syllable.Check(c.sounds, c.breaks, list) {
				t.Errorf("row %d: %v is accepted", i, list)
			}
		}
	}
}

// P15.1: open syllables, of any sounds.
func TestOpen(t *testing.T) {
	l := of("a/v3 r/l m/n a/v3")
	odd := []api.Sound{{Kind: api.Vowel}, {}, {Kind: api.Diphthong, Quantity: -1, Text: "?"}, {Kind: 77}}
	for i, c := range []struct {
		sounds []api.Sound
		s      api.Syllable
		open   bool
		e      api.Errno
	}{
		{l, syl(0, 2, 0, 0, false), false, api.OK}, {l, syl(2, 4, 3, 0, true), true, api.OK},
		{l, syl(0, 1, 0, 9, true), true, api.OK}, {l, syl(0, 4, 0, -9, false), false, api.OK}, {l, syl(0, 4, 3, 0, false), true, api.OK}, {l, syl(3, 4, 3, 0, false), true, api.OK},
		{odd, syl(0, 1, 0, 0, false), true, api.OK}, {odd, syl(0, 3, 0, 0, false), false, api.OK}, {odd, syl(1, 3, 2, 0, false), true, api.OK}, {odd, syl(2, 4, 2, 0, false), false, api.OK},
		{times(300, "a/v1"), syl(0, 300, 299, 0, false), true, api.OK}, {times(300, "a/v1"), syl(0, 300, 298, 0, false), false, api.OK},
		// One bound after the other is passed.
		{l, syl(-1, 2, 0, 0, false), false, api.ErrInvalid}, {l, syl(1, 2, 0, 0, false), false, api.ErrInvalid}, {l, syl(0, 0, 0, 0, false), false, api.ErrInvalid},
		{l, syl(3, 3, 3, 0, false), false, api.ErrInvalid}, {l, syl(0, 5, 0, 0, false), false, api.ErrInvalid}, {l, syl(0, 5, 4, 0, false), false, api.ErrInvalid},
		{l, syl(0, 3, 3, 0, false), false, api.ErrInvalid}, {l, syl(0, 2, -1, 0, false), false, api.ErrInvalid}, {l, syl(-3, -1, -2, 0, false), false, api.ErrInvalid},
		{l, syl(math.MinInt, 4, 3, 0, false), false, api.ErrInvalid}, {l, syl(0, math.MaxInt, 3, 0, false), false, api.ErrInvalid},
		{l, syl(0, math.MaxInt, math.MaxInt-1, 0, false), false, api.ErrInvalid}, {l, syl(0, math.MinInt, 3, 0, false), false, api.ErrInvalid}, {l, syl(0, 4, math.MaxInt, 0, false), false, api.ErrInvalid},
		{nil, api.Syllable{}, false, api.ErrInvalid}, {nil, syl(0, 1, 0, 0, false), false, api.ErrInvalid},
		// The sound is no nucleus.
		{l, syl(0, 2, 1, 0, false), false, api.ErrInvalid}, {l, syl(0, 4, 2, 0, false), false, api.ErrInvalid}, {odd, syl(1, 2, 1, 0, false), false, api.ErrInvalid}, {odd, syl(0, 4, 3, 0, false), false, api.ErrInvalid},
	} {
		if open, e := syllable.Open(c.sounds, c.s); open != c.open || e != c.e {
			t.Errorf("row %d: %v, %d", i, open, e)
		}
	}
}

// P15.1: the nuclei of words, also of those that have none.
func TestNuclei(t *testing.T) {
	for _, c := range []struct {
		sounds string
		breaks []int
		want   [][]int
	}{
		{"a/v3 r/l m/n a/v3", nil, [][]int{{0, 3}}}, {"e/v3 t/m a/v3 l/l t/m o/v3", []int{2}, [][]int{{0}, {2, 5}}},
		{"", nil, [][]int{nil}}, {"", []int{0, 0}, [][]int{nil, nil, nil}}, {"t/m", []int{1}, [][]int{nil, nil}},
		{"a/v1 ae/d2", []int{0, 1, 1, 2}, [][]int{nil, {0}, nil, {1}, nil}}, {"a/v1 ae/d2", []int{0}, [][]int{nil, {0, 1}}}, {"a/v1 ae/d2", []int{2}, [][]int{{0, 1}, nil}},
		{"s/s a/v1 t/m t/m e/v1 s/s", []int{1, 3, 5}, [][]int{nil, {1}, {4}, nil}},
	} {
		if l, e := syllable.Nuclei(of(c.sounds), c.breaks); !sameLists(l, c.want) || e != api.OK {
			t.Errorf("%q %v: %v, %d", c.sounds, c.breaks, l, e)
		}
	}
}

// P15.1: the clusters behind nuclei, with the breaks from directly behind the nucleus to directly ahead of the next one.
func TestBetween(t *testing.T) {
	for _, c := range []struct {
		sounds string
		breaks []int
		i      int
		want   string
		within []int
	}{
		{"n/n o/v3 n/n t/m e/v3", []int{3}, 0, "n/n t/m", []int{1}}, {"n/n o/v3 n/n t/m e/v3", []int{3}, 1, "", nil},
		{"n/n o/v3 n/n t/m e/v3", []int{0, 1, 2, 3, 4, 5}, 0, "n/n t/m", []int{0, 1, 2}}, {"n/n o/v3 n/n t/m e/v3", []int{0, 1, 2, 3, 4, 5}, 1, "", []int{0}},
		{"a/v1 e/v1 s/s", []int{0, 0, 1, 1, 2, 2, 3, 3}, 0, "", []int{0, 0}}, {"a/v1 e/v1 s/s", []int{0, 0, 1, 1, 2, 2, 3, 3}, 1, "s/s", []int{0, 0, 1, 1}},
		{"a/v1", nil, 0, "", nil}, {"a/v1", []int{0, 1, 1}, 0, "", []int{0, 0}}, {"a/v1 h/b x/x", []int{2}, 0, "h/b x/x", []int{1}},
	} {
		want := api.Cluster{Sounds: of(c.want), Breaks: c.within}
		if v, e := syllable.Between(of(c.sounds), c.breaks, c.i); !same(v, want) || e != api.OK {
			t.Errorf("%q %v, %d: %v, %d", c.sounds, c.breaks, c.i, v, e)
		}
	}
	for _, sounds := range []string{"", "t/m s/s", "a/v1", "t/m a/v1 t/m ae/d2"} {
		nuclei := len(sound.Nuclei(of(sounds)))
		for _, i := range []int{-1, nuclei, nuclei + 1, math.MinInt, math.MaxInt} {
			if v, e := syllable.Between(of(sounds), nil, i); !same(v, api.Cluster{}) || e != api.ErrRange {
				t.Errorf("%q, %d: %v, %d", sounds, i, v, e)
			}
		}
	}
}

// P15.1: Word counts the elements of any list, in order or not.
func TestWord(t *testing.T) {
	for i, c := range []struct {
		breaks      []int
		sound, want int
	}{
		{nil, 0, 0}, {nil, math.MaxInt, 0}, {[]int{2}, 1, 0}, {[]int{2}, 2, 1}, {[]int{2}, 3, 1}, {[]int{0, 0, 2, 2, 5}, 0, 2}, {[]int{0, 0, 2, 2, 5}, 4, 4}, {[]int{0, 0, 2, 2, 5}, 5, 5},
		{[]int{5, 0, 2}, 1, 1}, {[]int{5, 0, 2}, 2, 2}, {[]int{9, 8, 7, -1}, 6, 1}, {[]int{-3, -5}, -4, 1}, {[]int{math.MaxInt, math.MinInt}, 0, 1},
		{[]int{math.MaxInt, math.MinInt}, math.MaxInt, 2}, {[]int{math.MaxInt, math.MinInt}, math.MinInt, 1}, {make([]int, 1000), 0, 1000}, {make([]int, 1000), -1, 0},
	} {
		if n := syllable.Word(c.breaks, c.sound); n != c.want {
			t.Errorf("row %d: %d", i, n)
		}
	}
}

// checkLineError checks that all functions with a line return an error of its sounds, and nothing else.
func checkLineError(t *testing.T, what any, c line, want api.Errno) {
	t.Helper()
	if l, e := syllable.Divide(c.sounds, c.breaks); len(l) != 0 || e != want {
		t.Errorf("%v: Divide %v, %d", what, l, e)
	}
	if s, e := syllable.Text(c.sounds, c.breaks); s != "" || e != want {
		t.Errorf("%v: Text %q, %d", what, s, e)
	}
	if l, e := syllable.Nuclei(c.sounds, c.breaks); len(l) != 0 || e != want {
		t.Errorf("%v: Nuclei %v, %d", what, l, e)
	}
	for _, i := range []int{-1, 0, 999} {
		if v, e := syllable.Between(c.sounds, c.breaks, i); !same(v, api.Cluster{}) || e != want {
			t.Errorf("%v: Between %d %v, %d", what, i, v, e)
		}
	}
}

// P15.1: the errors of the sounds of a line, each ahead of all those that come later.
func TestLineErrors(t *testing.T) {
	kind, quantity, empty := api.Sound{Text: "a"}, api.Sound{Kind: api.Mute, Quantity: 1, Text: "t"}, api.Sound{Kind: api.Mute}
	large, capital := api.Sound{Kind: api.Mute, Text: "ttttttttt"}, api.Sound{Kind: api.Mute, Text: "T"}
	a := of("a/v1")
	for i, c := range []struct {
		line
		e api.Errno
	}{
		{line{times(201, "a/v1"), nil}, api.ErrTooLarge}, {line{make([]api.Sound, 201), []int{-1}}, api.ErrTooLarge}, {line{times(5000, "t/m"), make([]int, 5000)}, api.ErrTooLarge},
		{line{make([]api.Sound, 200), make([]int, 21)}, api.ErrInvalid},
		{line{[]api.Sound{kind}, nil}, api.ErrInvalid}, {line{[]api.Sound{quantity}, nil}, api.ErrRange}, {line{[]api.Sound{empty}, nil}, api.ErrEmpty},
		{line{[]api.Sound{large}, nil}, api.ErrTooLarge}, {line{[]api.Sound{capital}, nil}, api.ErrSyntax},
		{line{[]api.Sound{a[0], capital, kind}, []int{-1}}, api.ErrSyntax}, {line{[]api.Sound{a[0], kind, capital}, []int{2, 1}}, api.ErrInvalid}, {line{append(times(199, "a/v1"), empty), nil}, api.ErrEmpty},
		{line{[]api.Sound{a[0], quantity}, make([]int, 21)}, api.ErrRange}, {line{[]api.Sound{capital}, make([]int, 21)}, api.ErrSyntax},
		{line{a, make([]int, 21)}, api.ErrTooLarge}, {line{nil, make([]int, 21)}, api.ErrTooLarge}, {line{a, slices.Repeat([]int{-1}, 21)}, api.ErrTooLarge}, {line{of("t/m"), make([]int, 5000)}, api.ErrTooLarge},
		{line{a, []int{-1}}, api.ErrRange}, {line{a, []int{2}}, api.ErrRange}, {line{nil, []int{1}}, api.ErrRange}, {line{nil, []int{-1}}, api.ErrRange},
		{line{a, []int{math.MaxInt}}, api.ErrRange}, {line{a, []int{math.MinInt}}, api.ErrRange},
		{line{a, []int{1, 0}}, api.ErrOrder}, {line{a, []int{0, 1, 0, 2}}, api.ErrOrder}, {line{a, []int{0, 2, 1}}, api.ErrRange}, {line{a, []int{1, -1}}, api.ErrRange},
		{line{of("t/m"), []int{1, 0}}, api.ErrOrder}, {line{of("t/m"), []int{0, 2}}, api.ErrRange}, {line{slices.Concat(a, times(13, "s/s"), a), []int{2, 1}}, api.ErrOrder},
		{line{times(200, "a/v1"), append(make([]int, 19), 201)}, api.ErrRange},
	} {
		checkLineError(t, i, c.line, c.e)
	}
}

// P15.1: without a nucleus there are no syllables, but there are words.
func TestNoNucleus(t *testing.T) {
	for i, c := range []line{{nil, nil}, {nil, make([]int, 20)}, {of("t/m"), nil}, {of("t/m h/b x/x"), []int{1, 3}}, {times(200, "s/s"), nil}} {
		if l, e := syllable.Divide(c.sounds, c.breaks); len(l) != 0 || e != api.ErrEmpty {
			t.Errorf("row %d: Divide %v, %d", i, l, e)
		}
		if s, e := syllable.Text(c.sounds, c.breaks); s != "" || e != api.ErrEmpty {
			t.Errorf("row %d: Text %q, %d", i, s, e)
		}
		if l, e := syllable.Nuclei(c.sounds, c.breaks); !sameLists(l, make([][]int, len(c.breaks)+1)) || e != api.OK {
			t.Errorf("row %d: Nuclei %v, %d", i, l, e)
		}
		if v, e := syllable.Between(c.sounds, c.breaks, 0); !same(v, api.Cluster{}) || e != api.ErrRange {
			t.Errorf("row %d: Between %v, %d", i, v, e)
		}
	}
}

// P15.1: clusters on both sides of their limits; those ahead of the first nucleus and behind the last one do not limit a line.
func TestLimitsOfClusters(t *testing.T) {
	a := of("a/v1")
	spread := func(breaks, at int) []int { return slices.Repeat([]int{at}, breaks) }
	for i, c := range []struct {
		line
		divide api.Errno
		errors []api.Errno
	}{
		{line{slices.Concat(a, times(12, "s/s"), a), nil}, api.OK, []api.Errno{api.OK, api.OK}},
		{line{slices.Concat(a, times(13, "s/s"), a), nil}, api.ErrTooLarge, []api.Errno{api.ErrTooLarge, api.OK}},
		{line{slices.Concat(a, times(13, "h/b"), a), nil}, api.ErrTooLarge, []api.Errno{api.ErrTooLarge, api.OK}},
		{line{slices.Concat(a, a), spread(12, 1)}, api.OK, []api.Errno{api.OK, api.OK}},
		{line{slices.Concat(a, a), spread(13, 1)}, api.ErrTooLarge, []api.Errno{api.ErrTooLarge, api.OK}},
		{line{slices.Concat(a, of("s/s"), a), append(spread(7, 1), spread(6, 2)...)}, api.ErrTooLarge, []api.Errno{api.ErrTooLarge, api.OK}},
		{line{slices.Concat(a, a), append(spread(12, 1), spread(8, 2)...)}, api.OK, []api.Errno{api.OK, api.OK}},
		{line{slices.Concat(a, a, times(13, "s/s"), a), nil}, api.ErrTooLarge, []api.Errno{api.OK, api.ErrTooLarge, api.OK}},
		{line{slices.Concat(times(13, "s/s"), a, a), nil}, api.OK, []api.Errno{api.OK, api.OK}}, {line{slices.Concat(a, a), spread(20, 0)}, api.OK, []api.Errno{api.OK, api.OK}},
		{line{slices.Concat(a, a, times(12, "s/s")), nil}, api.OK, []api.Errno{api.OK, api.OK}}, {line{slices.Concat(a, a, times(13, "s/s")), nil}, api.OK, []api.Errno{api.OK, api.ErrTooLarge}},
		{line{a, spread(12, 1)}, api.OK, []api.Errno{api.OK}}, {line{a, spread(13, 1)}, api.OK, []api.Errno{api.ErrTooLarge}}, {line{a, spread(20, 1)}, api.OK, []api.Errno{api.ErrTooLarge}},
		{line{slices.Concat(times(99, "s/s"), a, times(100, "s/s")), append(spread(10, 3), spread(10, 150)...)}, api.OK, []api.Errno{api.ErrTooLarge}},
	} {
		l, e := syllable.Divide(c.sounds, c.breaks)
		text, f := syllable.Text(c.sounds, c.breaks)
		if e != c.divide || f != c.divide || (len(l) > 0) != (e == api.OK) || (text != "") != (e == api.OK) || syllable.Check(c.sounds, c.breaks, l) != (e == api.OK) {
			t.Errorf("row %d: %v, %d; %q, %d", i, l, e, text, f)
		}
		if words, e := syllable.Nuclei(c.sounds, c.breaks); e != api.OK || len(words) != len(c.breaks)+1 {
			t.Errorf("row %d: Nuclei %v, %d", i, words, e)
		}
		for k, want := range c.errors {
			if v, e := syllable.Between(c.sounds, c.breaks, k); e != want || e != api.OK && !same(v, api.Cluster{}) {
				t.Errorf("row %d: Between %d %v, %d", i, k, v, e)
			}
		}
		if _, e := syllable.Between(c.sounds, c.breaks, len(c.errors)); e != api.ErrRange {
			t.Errorf("row %d: Between of one nucleus more: %d", i, e)
		}
	}
}

// P15.1: the longest line, with as many breaks as there can be.
func TestLongestLine(t *testing.T) {
	l := times(50, "n/n o/v3 n/n t/m")
	breaks := []int{}
	for i := range 20 {
		breaks = append(breaks, 4*i+3)
	}
	got, e := syllable.Divide(l, breaks)
	if e != api.OK || len(got) != 50 || got[0] != syl(0, 4, 1, 0, true) || got[19] != syl(76, 80, 77, 19, true) || got[20] != syl(80, 84, 81, 20, false) || got[49] != syl(196, 200, 197, 20, true) {
		t.Errorf("%v, %d", got, e)
	}
	text, e := syllable.Text(l, breaks)
	if want := strings.Repeat("non_t.", 20) + strings.Repeat("nont.", 30); text != strings.TrimSuffix(want, ".") || e != api.OK {
		t.Errorf("%q, %d", text, e)
	}
}
