package cluster_test

import (
	"math"
	"slices"
	"strings"
	"testing"

	"anceps/api"
	"anceps/cluster"
	"anceps/sound"
)

// of returns the cluster with a text of sounds and these breaks.
func of(sounds string, breaks ...int) api.Cluster {
	l, e := sound.Parse(sounds)
	if e != api.OK {
		panic(sounds)
	}
	return api.Cluster{Sounds: l, Breaks: breaks}
}

// long returns a cluster with so many sounds and breaks.
func long(sounds, breaks int) api.Cluster {
	return api.Cluster{Sounds: slices.Repeat([]api.Sound{{Kind: api.Sibilant, Text: "s"}}, sounds), Breaks: make([]int, breaks)}
}

// with returns a cluster with these sounds, whatever they are.
func with(sounds []api.Sound, breaks ...int) api.Cluster {
	return api.Cluster{Sounds: sounds, Breaks: breaks}
}

func same(a, b api.Cluster) bool {
	return slices.Equal(a.Sounds, b.Sounds) && slices.Equal(a.Breaks, b.Breaks)
}

// P14.1: the examples of the chapter, and others like them.
func TestClassAndCoda(t *testing.T) {
	for _, c := range []struct {
		sounds      string
		breaks      []int
		class, coda int
	}{
		{"t/m r/l", nil, api.ClassMute, 0},
		{"t/m r/l", []int{0}, api.ClassNext, 0},
		{"t/m r/l", []int{1}, api.ClassClosed, 1},
		{"n/n t/m r/l", nil, api.ClassClosed, 2},
		{"x/x", nil, api.ClassClosed, 1},
		{"h/b t/m", nil, api.ClassOpen, 0},
		// At most one beat, wherever words end.
		{"", nil, api.ClassOpen, 0}, {"", []int{0, 0, 0}, api.ClassOpen, 0},
		{"h/b", nil, api.ClassOpen, 0}, {"h/b h/b h/b", []int{1, 2}, api.ClassOpen, 0},
		{"t/m", []int{0}, api.ClassOpen, 0}, {"t/m", []int{1}, api.ClassOpen, 0}, {"t/m h/b", []int{0, 1, 2}, api.ClassOpen, 0},
		{"r/l", nil, api.ClassOpen, 0}, {"n/n", nil, api.ClassOpen, 0}, {"s/s", nil, api.ClassOpen, 0}, {"i/g", nil, api.ClassOpen, 0},
		// A mute and a liquid: words end behind them, ahead of them, or between and on both sides.
		{"t/m r/l", []int{2}, api.ClassMute, 0}, {"t/m r/l", []int{2, 2}, api.ClassMute, 0},
		{"t/m r/l", []int{0, 0}, api.ClassNext, 0},
		{"t/m r/l", []int{0, 1}, api.ClassClosed, 1}, {"t/m r/l", []int{1, 2}, api.ClassClosed, 1}, {"t/m r/l", []int{0, 2}, api.ClassClosed, 1},
		// A breath beside them changes nothing, but breaks stand elsewhere.
		{"h/b t/m r/l", nil, api.ClassMute, 0}, {"t/m h/b r/l", nil, api.ClassMute, 0}, {"t/m r/l h/b", nil, api.ClassMute, 0},
		{"h/b t/m r/l", []int{0}, api.ClassNext, 0}, {"h/b t/m r/l", []int{1}, api.ClassNext, 0}, {"h/b t/m r/l", []int{0, 1}, api.ClassNext, 0},
		{"h/b t/m r/l", []int{2}, api.ClassClosed, 2}, {"h/b t/m r/l", []int{3}, api.ClassMute, 0}, {"h/b t/m r/l", []int{0, 3}, api.ClassClosed, 2},
		{"t/m h/b r/l", []int{0}, api.ClassNext, 0}, {"t/m h/b r/l", []int{1}, api.ClassClosed, 2}, {"t/m h/b r/l", []int{2}, api.ClassClosed, 2}, {"t/m h/b r/l", []int{3}, api.ClassMute, 0},
		{"t/m r/l h/b", []int{2}, api.ClassMute, 0}, {"t/m r/l h/b", []int{3}, api.ClassMute, 0}, {"t/m r/l h/b", []int{2, 3}, api.ClassMute, 0}, {"t/m r/l h/b", []int{1, 3}, api.ClassClosed, 1},
		// Any other core with two beats or more.
		{"r/l t/m", nil, api.ClassClosed, 1}, {"t/m t/m", nil, api.ClassClosed, 1}, {"l/l l/l", nil, api.ClassClosed, 1}, {"s/s r/l", nil, api.ClassClosed, 1},
		{"t/m n/n", nil, api.ClassClosed, 1}, {"t/m s/s", nil, api.ClassClosed, 1}, {"x/x r/l", nil, api.ClassClosed, 1}, {"t/m x/x", nil, api.ClassClosed, 2},
		{"t/m r/l r/l", nil, api.ClassClosed, 2}, {"t/m r/l s/s", nil, api.ClassClosed, 2}, {"s/s t/m r/l", []int{0}, api.ClassClosed, 2}, {"i/g i/g", nil, api.ClassClosed, 1},
		// The coda ends ahead of the last sound of the core, or behind it, wherever breaths stand.
		{"h/b x/x h/b", nil, api.ClassClosed, 2}, {"x/x x/x", []int{1}, api.ClassClosed, 2}, {"n/n h/b t/m h/b", nil, api.ClassClosed, 2}, {"n/n t/m h/b", []int{2}, api.ClassClosed, 1},
	} {
		v := of(c.sounds, c.breaks...)
		class, e := cluster.Class(v)
		coda, f := cluster.Coda(v)
		if g := cluster.Valid(v); class != c.class || coda != c.coda || e != api.OK || f != api.OK || g != api.OK {
			t.Errorf("%q %v: %d, %d; %d, %d; %d", c.sounds, c.breaks, class, e, coda, f, g)
		}
	}
}

// P14.1: the core of clusters.
func TestCore(t *testing.T) {
	for sounds, want := range map[string]string{
		"": "", "h/b": "", "t/m": "t/m", "h/b t/m h/b h/b r/l h/b": "t/m r/l",
		"t/m l/l n/n s/s x/x i/g": "t/m l/l n/n s/s x/x i/g",
	} {
		if l, e := cluster.Core(of(sounds, 0)); e != api.OK || !slices.Equal(l, of(want).Sounds) {
			t.Errorf("%q: %v, %d", sounds, l, e)
		}
	}
}

// P14.1: two clusters, and the one that they make, by a table.
func TestJoinAndSplit(t *testing.T) {
	for _, c := range []struct {
		a, b, both api.Cluster
		at         int
	}{
		{of("n/n", 1), of("t/m r/l", 2), of("n/n t/m r/l", 1, 3), 1},
		{of(""), of(""), of(""), 0},
		{of("", 0, 0), of(""), of("", 0, 0), 0},
		{of("", 0), of("t/m", 1), of("t/m", 0, 1), 0},
		{of("t/m", 1, 1), of(""), of("t/m", 1, 1), 1},
		{of("t/m", 0, 1, 1), of("r/l h/b", 1, 1, 2), of("t/m r/l h/b", 0, 1, 1, 2, 2, 3), 1},
		{of("x/x s/s"), of("x/x", 1), of("x/x s/s x/x", 3), 2},
	} {
		if both, e := cluster.Join(c.a, c.b); e != api.OK || !same(both, c.both) {
			t.Errorf("Join(%v, %v): %v, %d", c.a, c.b, both, e)
		}
		if a, b, e := cluster.Split(c.both, c.at); e != api.OK || !same(a, c.a) || !same(b, c.b) {
			t.Errorf("Split(%v, %d): %v, %v, %d", c.both, c.at, a, b, e)
		}
	}
	// A break that stands where both meet goes to the first one when they are divided again.
	if both, e := cluster.Join(of("t/m"), of("r/l", 0)); e != api.OK || !same(both, of("t/m r/l", 1)) {
		t.Errorf("a break ahead of the second one: %v, %d", both, e)
	}
}

// P14.1: all sounds come first in the order, then the breaks; any clusters have a place in it.
func TestCompare(t *testing.T) {
	ordered := []api.Cluster{
		with(nil), with(nil, -1), with(nil, 0), with(nil, 0, 0), with(nil, 0, 1), with(nil, 1), with(nil, math.MaxInt),
		with([]api.Sound{{Kind: math.MinInt}}),
		of("a/v1"), of("t/m"), of("t/m", 1), of("t/m t/m"), of("t/m r/l"), of("t/m r/l", 0, 1), of("t/m r/l", 1), of("t/m r/l", 1, 0),
		of("th/m"), of("r/l", 1, 1), of("s/s"), of("h/b"), of("h/b t/m"),
	}
	for i, a := range ordered {
		for j, b := range ordered {
			want := 0
			if i < j {
				want = -1
			} else if i > j {
				want = 1
			}
			if n := cluster.Compare(a, b); n != want {
				t.Errorf("%v, %v: %d", a, b, n)
			}
		}
	}
	if cluster.Compare(with(nil), with([]api.Sound{}, []int{}...)) != 0 {
		t.Error("lists that are nil and lists that are empty differ")
	}
}

// P14.1: the texts of the classes.
func TestExplain(t *testing.T) {
	for class, want := range map[int]string{
		api.ClassOpen: "open", api.ClassMute: "mute and liquid", api.ClassNext: "next mute and liquid", api.ClassClosed: "closed",
		0: "", 5: "", -1: "", math.MaxInt: "", math.MinInt: "",
	} {
		if s := cluster.Explain(class); s != want {
			t.Errorf("%d: %q", class, s)
		}
	}
}

// P14.1: the errors of clusters, each ahead of all those that come later.
func TestErrors(t *testing.T) {
	vowel, nothing, marked := api.Sound{Kind: api.Vowel, Quantity: 1, Text: "a"}, api.Sound{}, api.Sound{Kind: api.Mute, Quantity: 1, Text: "t"}
	silent, wordy, capital := api.Sound{Kind: api.Mute}, api.Sound{Kind: api.Mute, Text: "ttttttttt"}, api.Sound{Kind: api.Mute, Text: "T"}
	diphthong, mute := api.Sound{Kind: api.Diphthong, Quantity: 2, Text: "ae"}, api.Sound{Kind: api.Mute, Text: "t"}
	for i, c := range []struct {
		v api.Cluster
		e api.Errno
	}{
		{long(12, 12), api.OK}, {long(0, 12), api.OK}, {long(12, 0), api.OK},
		{long(13, 0), api.ErrTooLarge}, {long(0, 13), api.ErrTooLarge}, {long(13, 13), api.ErrTooLarge},
		{with(slices.Repeat([]api.Sound{nothing}, 13), -1), api.ErrTooLarge}, {with([]api.Sound{nothing}, make([]int, 13)...), api.ErrTooLarge},
		{with(slices.Repeat([]api.Sound{nothing}, 12), -1), api.ErrInvalid},
		{with([]api.Sound{vowel}), api.ErrInvalid}, {with([]api.Sound{diphthong}, 5), api.ErrInvalid}, {with([]api.Sound{nothing}), api.ErrInvalid},
		{with([]api.Sound{mute, vowel, marked}), api.ErrInvalid}, {with([]api.Sound{marked, vowel}), api.ErrRange},
		{with([]api.Sound{mute, silent, vowel}), api.ErrEmpty}, {with([]api.Sound{wordy, vowel}, -1), api.ErrTooLarge}, {with([]api.Sound{capital, marked}, -1), api.ErrSyntax},
		{with([]api.Sound{{Kind: api.Vowel, Text: "a"}}), api.ErrRange}, {with([]api.Sound{{Kind: api.Vowel, Quantity: 4, Text: "a"}}), api.ErrRange},
		{of("t/m", 0, 1), api.OK}, {of("t/m", 1, 1), api.OK}, {of("t/m r/l", 0, 0, 1, 2, 2), api.OK},
		{of("t/m", -1), api.ErrRange}, {of("t/m", 2), api.ErrRange}, {of("", 1), api.ErrRange}, {of("", math.MinInt), api.ErrRange}, {of("", math.MaxInt), api.ErrRange},
		{of("t/m", 1, 0), api.ErrOrder}, {of("t/m", 1, 0, 2), api.ErrOrder}, {of("t/m", 0, 2, 1), api.ErrRange}, {of("t/m", 0, -1), api.ErrRange}, {of("t/m r/l", 2, 2, 1, 3), api.ErrOrder},
		{with([]api.Sound{mute, vowel}, 1, 0), api.ErrInvalid},
	} {
		if e := cluster.Valid(c.v); e != c.e {
			t.Errorf("row %d: %d", i, e)
		}
		if c.e == api.OK {
			continue
		}
		if class, e := cluster.Class(c.v); class != 0 || e != c.e {
			t.Errorf("row %d: Class %d, %d", i, class, e)
		}
		if coda, e := cluster.Coda(c.v); coda != 0 || e != c.e {
			t.Errorf("row %d: Coda %d, %d", i, coda, e)
		}
		if core, e := cluster.Core(c.v); core != nil || e != c.e {
			t.Errorf("row %d: Core %v, %d", i, core, e)
		}
		for _, other := range []api.Cluster{of("t/m"), long(12, 12), of("t/m", 2), long(13, 0)} {
			if both, e := cluster.Join(c.v, other); !same(both, api.Cluster{}) || e != c.e {
				t.Errorf("row %d: Join %v, %d", i, both, e)
			}
		}
		if both, e := cluster.Join(long(12, 12), c.v); !same(both, api.Cluster{}) || e != c.e {
			t.Errorf("row %d: Join, as the second one, %v, %d", i, both, e)
		}
		for _, at := range []int{-1, 0, 1, 99} {
			if a, b, e := cluster.Split(c.v, at); !same(a, api.Cluster{}) || !same(b, api.Cluster{}) || e != c.e {
				t.Errorf("row %d: Split %v, %v, %d", i, a, b, e)
			}
		}
	}
}

// P14.1: what two clusters have together, on both sides of the limits.
func TestLimitsOfJoin(t *testing.T) {
	for _, c := range []struct {
		a, b api.Cluster
		e    api.Errno
	}{
		{long(6, 6), long(6, 6), api.OK}, {long(12, 0), long(0, 12), api.OK}, {long(0, 12), long(12, 0), api.OK},
		{long(12, 0), long(1, 0), api.ErrTooLarge}, {long(1, 0), long(12, 0), api.ErrTooLarge}, {long(12, 12), long(12, 12), api.ErrTooLarge},
		{long(0, 12), long(0, 1), api.ErrTooLarge}, {long(6, 7), long(6, 6), api.ErrTooLarge}, {long(7, 6), long(6, 6), api.ErrTooLarge},
	} {
		both, e := cluster.Join(c.a, c.b)
		if e != c.e || e != api.OK && !same(both, api.Cluster{}) || e == api.OK && (len(both.Sounds) != 12 || len(both.Breaks) != 12) {
			t.Errorf("%v, %v: %v, %d", c.a, c.b, both, e)
		}
	}
}

// P14.1: Split goes from 0 to the number of sounds.
func TestLimitsOfSplit(t *testing.T) {
	for _, v := range []api.Cluster{of(""), of("", 0), of("t/m r/l", 0, 1, 2), long(12, 12)} {
		n := len(v.Sounds)
		for _, at := range []int{-1, n + 1, math.MinInt, math.MaxInt} {
			if a, b, e := cluster.Split(v, at); e != api.ErrRange || !same(a, api.Cluster{}) || !same(b, api.Cluster{}) {
				t.Errorf("%v at %d: %v, %v, %d", v, at, a, b, e)
			}
		}
		for _, at := range []int{0, n} {
			if a, b, e := cluster.Split(v, at); e != api.OK || len(a.Sounds) != at || len(b.Sounds) != n-at {
				t.Errorf("%v at %d: %v, %v, %d", v, at, a, b, e)
			}
		}
	}
}

// P1: no argument makes a function of this layer panic or change what it was given.
func TestNoPanic(t *testing.T) {
	clusters := []api.Cluster{
		{}, {Sounds: []api.Sound{}, Breaks: []int{}}, of("t/m r/l", 1, 0), of("n/n t/m r/l", 0, 1, 3), long(12, 12), long(13, 13), long(5000, 5000),
		with(make([]api.Sound, 12), math.MaxInt, math.MinInt), of("t/m", math.MaxInt), of("", math.MinInt),
		with([]api.Sound{{Kind: math.MaxInt, Quantity: math.MinInt, Text: strings.Repeat("\x00", 100)}}),
	}
	for _, a := range clusters {
		sounds, breaks := slices.Clone(a.Sounds), slices.Clone(a.Breaks)
		cluster.Valid(a)
		cluster.Class(a)
		cluster.Coda(a)
		cluster.Core(a)
		for _, at := range append(breaks, -1, 0, 1, 12, 13) {
			cluster.Split(a, at)
			cluster.Explain(at)
		}
		for _, b := range clusters {
			cluster.Join(a, b)
			cluster.Join(b, a)
			cluster.Compare(a, b)
		}
		if !slices.Equal(a.Sounds, sounds) || !slices.Equal(a.Breaks, breaks) {
			t.Errorf("a cluster was changed: %v, %v", sounds, breaks)
		}
	}
}

// Results are new memory: changing or growing one changes neither the arguments, nor another part, nor a later result.
func TestResultsAreNew(t *testing.T) {
	a, b := of("n/n t/m", 1, 1), of("r/l h/b", 1, 2)
	both := of("n/n t/m r/l h/b", 1, 1, 3, 4)
	change := func(v api.Cluster) {
		_ = append(v.Sounds, make([]api.Sound, 3)...)
		_ = append(v.Breaks, make([]int, 3)...)
		clear(v.Sounds)
		clear(v.Breaks)
	}
	check := func(what string) {
		if !same(a, of("n/n t/m", 1, 1)) || !same(b, of("r/l h/b", 1, 2)) || !same(both, of("n/n t/m r/l h/b", 1, 1, 3, 4)) {
			t.Errorf("%s: %v, %v, %v", what, a, b, both)
		}
	}
	for range 2 {
		joined, _ := cluster.Join(a, b)
		change(joined)
		check("Join")
		joined, _ = cluster.Join(a, api.Cluster{})
		change(joined)
		joined, _ = cluster.Join(api.Cluster{}, b)
		change(joined)
		check("Join with none")
		for at := range 5 {
			first, second, _ := cluster.Split(both, at)
			kept := api.Cluster{Sounds: slices.Clone(second.Sounds), Breaks: slices.Clone(second.Breaks)}
			change(first)
			if !same(second, kept) {
				t.Errorf("Split at %d: %v, %v", at, second, kept)
			}
			change(second)
			check("Split")
		}
		core, _ := cluster.Core(a)
		clear(core)
		check("Core")
	}
}
