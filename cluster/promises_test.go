package cluster_test

import (
	"slices"
	"testing"

	"anceps/api"
	"anceps/cluster"
	"anceps/sound"
)

// consonants has one sound of each kind that is no nucleus.
func consonants() []api.Sound {
	return of("t/m r/l n/n s/s x/x i/g h/b").Sounds
}

// lists returns all lists of a length with elements of another one.
func lists[E any](of []E, length int) [][]E {
	all := [][]E{nil}
	for range length {
		var longer [][]E
		for _, l := range all {
			for _, x := range of {
				longer = append(longer, append(slices.Clone(l), x))
			}
		}
		all = longer
	}
	return all
}

// breaks returns all lists of at most so many breaks among so many sounds.
func breaks(sounds, length int) [][]int {
	var places []int
	for at := range sounds + 1 {
		places = append(places, at)
	}
	var all [][]int
	for n := range length + 1 {
		for _, l := range lists(places, n) {
			if slices.IsSorted(l) {
				all = append(all, l)
			}
		}
	}
	return all
}

// allClusters calls do with all clusters of at most so many consonants and breaks.
func allClusters(sounds, ends int, do func(c api.Cluster)) {
	for n := range sounds + 1 {
		where := breaks(n, ends)
		for _, l := range lists(consonants(), n) {
			for _, b := range where {
				do(api.Cluster{Sounds: l, Breaks: b})
			}
		}
	}
}

// definedClass returns the class of a cluster by the definition.
func definedClass(c api.Cluster) int {
	var core []int
	beats := 0
	for i, s := range c.Sounds {
		beats += map[int]int{api.Breath: 0, api.Double: 2}[s.Kind]
		if s.Kind != api.Breath {
			core = append(core, i)
			if s.Kind != api.Double {
				beats++
			}
		}
	}
	if beats <= 1 {
		return api.ClassOpen
	}
	if len(core) == 2 && c.Sounds[core[0]].Kind == api.Mute && c.Sounds[core[1]].Kind == api.Liquid {
		if !slices.ContainsFunc(c.Breaks, func(n int) bool { return n <= core[1] }) {
			return api.ClassMute
		}
		if len(c.Breaks) > 0 && !slices.ContainsFunc(c.Breaks, func(n int) bool { return n > core[0] }) {
			return api.ClassNext
		}
	}
	return api.ClassClosed
}

// definedCoda returns the number of the sounds of the coda by the definition.
func definedCoda(c api.Cluster) int {
	if definedClass(c) != api.ClassClosed {
		return 0
	}
	for i, s := range slices.Backward(c.Sounds) {
		switch s.Kind {
		case api.Breath:
		case api.Double:
			return i + 1
		default:
			return i
		}
	}
	return -1
}

// P14.1: the class, the coda and the core of all small clusters, by the definitions.
func TestAllSmallClusters(t *testing.T) {
	check := func(c api.Cluster) {
		class, e := cluster.Class(c)
		if e != api.OK || class != definedClass(c) {
			t.Fatalf("%v: class %d, %d", c, class, e)
		}
		if coda, e := cluster.Coda(c); e != api.OK || coda != definedCoda(c) {
			t.Fatalf("%v: coda %d, %d", c, coda, e)
		}
		core, e := cluster.Core(c)
		if want := slices.DeleteFunc(slices.Clone(c.Sounds), func(s api.Sound) bool { return s.Kind == api.Breath }); e != api.OK || !slices.Equal(core, want) {
			t.Fatalf("%v: core %v, %d", c, core, e)
		}
		if e := cluster.Valid(c); e != api.OK {
			t.Fatalf("%v: %d", c, e)
		}
	}
	allClusters(3, 3, check)
	allClusters(4, 1, check)
}

// P14.2: Join of the parts of Split is the cluster; a part ends at the place, and the other one begins there.
func TestPartsMakeTheCluster(t *testing.T) {
	allClusters(3, 3, func(c api.Cluster) {
		for at := range len(c.Sounds) + 1 {
			a, b, e := cluster.Split(c, at)
			both, f := cluster.Join(a, b)
			if e != api.OK || f != api.OK || !same(both, c) || len(a.Sounds) != at {
				t.Fatalf("%v at %d: %v, %d; %v, %d", c, at, a, e, both, f)
			}
			// A break at the place belongs to the first part.
			ends := 0
			for _, n := range c.Breaks {
				if n <= at {
					ends++
				}
			}
			if len(a.Breaks) != ends {
				t.Fatalf("%v at %d: %v, %v", c, at, a, b)
			}
		}
	})
}

// P14.2: beats of Join are the sum; Join is closed if one of both is; its sounds and breaks stand where they stood.
func TestJoinOfSmallClusters(t *testing.T) {
	var small []api.Cluster
	allClusters(2, 2, func(c api.Cluster) { small = append(small, c) })
	for i, a := range small {
		// A part of the pairs is enough; each cluster is the first one and the second one of many of them.
		for j := i % 3; j < len(small); j += 3 {
			b := small[j]
			both, e := cluster.Join(a, b)
			if e != api.OK || sound.Beats(both.Sounds) != sound.Beats(a.Sounds)+sound.Beats(b.Sounds) {
				t.Fatalf("%v, %v: %v, %d", a, b, both, e)
			}
			class, _ := cluster.Class(both)
			if class != definedClass(both) || (definedClass(a) == api.ClassClosed || definedClass(b) == api.ClassClosed) && class != api.ClassClosed {
				t.Fatalf("%v, %v: the class of %v is %d", a, b, both, class)
			}
			for k, n := range both.Breaks {
				if k < len(a.Breaks) && n != a.Breaks[k] || k >= len(a.Breaks) && n != b.Breaks[k-len(a.Breaks)]+len(a.Sounds) {
					t.Fatalf("%v, %v: %v", a, b, both)
				}
			}
			if len(both.Breaks) != len(a.Breaks)+len(b.Breaks) || !slices.Equal(both.Sounds, slices.Concat(a.Sounds, b.Sounds)) {
				t.Fatalf("%v, %v: %v", a, b, both)
			}
		}
	}
}

// P14.2: a breath at the beginning, where all breaks are moved by one, does not change the class.
func TestBreathAtTheBeginning(t *testing.T) {
	breath := api.Sound{Kind: api.Breath, Text: "h"}
	allClusters(3, 2, func(c api.Cluster) {
		before, _ := cluster.Class(c)
		later := api.Cluster{Sounds: append([]api.Sound{breath}, c.Sounds...)}
		for _, n := range c.Breaks {
			later.Breaks = append(later.Breaks, n+1)
		}
		if after, e := cluster.Class(later); after != before || e != api.OK {
			t.Fatalf("%v: %d, but with a breath %d, %d", c, before, after, e)
		}
	})
}

// P14.2: the coda of a closed cluster is not empty, and what is left behind it has at most one beat; others have none.
func TestCodaLeavesOneBeat(t *testing.T) {
	allClusters(4, 1, func(c api.Cluster) {
		class, _ := cluster.Class(c)
		coda, e := cluster.Coda(c)
		if e != api.OK || (coda > 0) != (class == api.ClassClosed) {
			t.Fatalf("%v: class %d, coda %d, %d", c, class, coda, e)
		}
		if class == api.ClassClosed && sound.Beats(c.Sounds[coda:]) > 1 {
			t.Fatalf("%v: coda %d", c, coda)
		}
	})
}

// P14.1: Compare is a total order of all small clusters, and 0 exactly for equal ones.
func TestCompareIsATotalOrder(t *testing.T) {
	var small []api.Cluster
	allClusters(2, 2, func(c api.Cluster) { small = append(small, c) })
	slices.SortFunc(small, cluster.Compare)
	for i, a := range small {
		for j, b := range small {
			want := 0
			if i < j {
				want = -1
			} else if i > j {
				want = 1
			}
			if n := cluster.Compare(a, b); n != want {
				t.Fatalf("%v, %v: %d", a, b, n)
			}
		}
	}
}
