package sound_test

import (
	"slices"
	"strings"
	"testing"

	"anceps/api"
	"anceps/sound"
)

// allLists calls do with all lists of at most so many of the sounds.
func allLists(sounds []api.Sound, length int, do func(l []api.Sound)) {
	var add func(l []api.Sound)
	add = func(l []api.Sound) {
		do(l)
		if len(l) < length {
			for _, s := range sounds {
				add(append(slices.Clone(l), s))
			}
		}
	}
	add(nil)
}

// aFew returns a sound of each kind, and of two that do not exist.
func aFew() []api.Sound {
	var l []api.Sound
	for kind := range 11 {
		l = append(l, of(kind, kind%3, marks[kind:kind+1]))
	}
	return l
}

// P11.2: the beats of two lists that stand one behind the other are the sum of theirs.
func TestBeatsAdd(t *testing.T) {
	allLists(aFew(), 4, func(l []api.Sound) {
		sum := 0
		for _, s := range l {
			sum += sound.Beats([]api.Sound{s})
		}
		if n := sound.Beats(l); n != sum {
			t.Fatalf("%v: %d", l, n)
		}
		for at := range len(l) + 1 {
			if sound.Beats(l[:at])+sound.Beats(l[at:]) != sum {
				t.Fatalf("%v is divided at %d", l, at)
			}
		}
	})
}

// P11.2: from its clusters and its nuclei, in turn, a list can be put together again.
func TestClustersAndNucleiInTurn(t *testing.T) {
	allLists(aFew(), 4, func(l []api.Sound) {
		clusters, nuclei := sound.Clusters(l), sound.Nuclei(l)
		if len(clusters) != len(nuclei)+1 {
			t.Fatalf("%v: %v, %v", l, clusters, nuclei)
		}
		var again []api.Sound
		for i, cluster := range clusters {
			if slices.ContainsFunc(cluster, sound.Nucleus) {
				t.Fatalf("%v: a nucleus in %v", l, cluster)
			}
			again = append(again, cluster...)
			if i < len(nuclei) {
				if nuclei[i] != len(again) || !sound.Nucleus(l[nuclei[i]]) {
					t.Fatalf("%v: %v, %v", l, clusters, nuclei)
				}
				again = append(again, l[nuclei[i]])
			}
		}
		if !slices.Equal(again, l) {
			t.Fatalf("%v is put together as %v", l, again)
		}
	})
}

// P11.2: Compare is a total order, and 0 exactly for equal sounds.
func TestCompareIsATotalOrder(t *testing.T) {
	l := someSounds()
	slices.SortFunc(l, sound.Compare)
	for i, a := range l {
		for j, b := range l {
			n := sound.Compare(a, b)
			if (n == 0) != (a == b) || n != -sound.Compare(b, a) || n < -1 || n > 1 {
				t.Fatalf("%v, %v: %d", a, b, n)
			}
			// All sounds are different, so each stands ahead of those behind it exactly if the order is transitive.
			if i < j && n != -1 {
				t.Fatalf("%v, %v: not transitive", a, b)
			}
		}
	}
}

// P11.2: Parse leads from a text to the list.
func TestParseLeadsBack(t *testing.T) {
	allLists(everySound("a", "_9"), 3, func(l []api.Sound) {
		s, e := sound.Format(l)
		if e != api.OK {
			t.Fatalf("%v: %d", l, e)
		}
		if back, e := sound.Parse(s); !slices.Equal(back, l) || e != api.OK {
			t.Fatalf("%q: %v, %d", s, back, e)
		}
	})
}

// P11.2: whatever is changed in a text, Parse accepts it only if it is the text of its result.
func TestChangedTexts(t *testing.T) {
	for _, text := range []string{"a/v3 x/x i/v3 s/s", "ae/d2 h/b o/v1", "abcdefgh/g _/l"} {
		for at := range len(text) {
			for b := range 256 {
				with := string([]byte{byte(b)})
				for _, s := range []string{text[:at] + with + text[at+1:], text[:at] + with + text[at:], text[:at] + text[at+1:]} {
					l, e := sound.Parse(s)
					if e != api.OK && (e != api.ErrSyntax || len(l) != 0) {
						t.Fatalf("%q: %v, %d", s, l, e)
					}
					if e != api.OK {
						continue
					}
					if again, e := sound.Format(l); again != s || e != api.OK {
						t.Fatalf("%q: %v, whose text is %q, %d", s, l, again, e)
					}
				}
			}
		}
	}
}

// P1: no argument makes a function of this layer panic or change what it was given.
func TestNoPanic(t *testing.T) {
	sounds := someSounds()
	lists := [][]api.Sound{nil, {}, sounds, slices.Repeat(sounds, 20), axis(), make([]api.Sound, 200), make([]api.Sound, 201)}
	for _, s := range sounds {
		lists = append(lists, []api.Sound{s}, []api.Sound{of(vowel, 1, "a"), s, of(mute, 0, "t")})
		sound.Valid(s)
		sound.Nucleus(s)
		sound.Compare(s, api.Sound{})
		sound.Parse(s.Text)
	}
	for _, l := range lists {
		kept := slices.Clone(l)
		sound.Beats(l)
		sound.Nuclei(l)
		sound.Clusters(l)
		if s, e := sound.Format(l); e == api.OK {
			sound.Parse(s + "?")
		}
		if !slices.Equal(l, kept) {
			t.Fatalf("a list was changed: %v", kept)
		}
	}
	for _, s := range []string{"", "\x00", strings.Repeat("/", 4000), strings.Repeat("/v", 2000), strings.Repeat("a/v3 ", 100000)} {
		sound.Parse(s)
	}
}

// Results are new memory: changing or growing one changes neither the argument, nor another part, nor a later result.
func TestResultsAreNew(t *testing.T) {
	l := []api.Sound{of(mute, 0, "t"), of(vowel, 1, "a"), of(mute, 0, "t"), of(liquid, 0, "r"), of(vowel, 3, "i"), of(sibilant, 0, "s")}
	kept, want := slices.Clone(l), [][]api.Sound{slices.Clone(l[:1]), slices.Clone(l[2:4]), slices.Clone(l[5:])}
	clusters := sound.Clusters(l)
	for _, cluster := range clusters {
		_ = append(cluster, make([]api.Sound, 2)...)
	}
	if !slices.Equal(l, kept) || !slices.EqualFunc(clusters, want, slices.Equal[[]api.Sound]) {
		t.Errorf("clusters that grow: %v, %v", l, clusters)
	}
	for _, cluster := range clusters {
		clear(cluster)
	}
	if again := sound.Clusters(l); !slices.Equal(l, kept) || !slices.EqualFunc(again, want, slices.Equal[[]api.Sound]) {
		t.Errorf("clusters that change: %v, %v", l, again)
	}
	clear(sound.Nuclei(l))
	if again := sound.Nuclei(l); !slices.Equal(again, []int{1, 4}) {
		t.Errorf("nuclei that change: %v", again)
	}
	parsed, _ := sound.Parse("a/v3 x/x")
	clear(parsed)
	if again, _ := sound.Parse("a/v3 x/x"); !slices.Equal(again, axis()[:2]) {
		t.Errorf("sounds that change: %v", again)
	}
}
