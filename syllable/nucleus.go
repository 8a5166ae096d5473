package syllable

import (
	"slices"

	"anceps/api"
	"anceps/cluster"
)

// behind returns the cluster behind the nucleus with the number i, valid or not.
func behind(sounds []api.Sound, breaks, nuclei []int, i int) api.Cluster {
	first, next := nuclei[i]+1, len(sounds)
	if i+1 < len(nuclei) {
		next = nuclei[i+1]
	}
	c := api.Cluster{Sounds: slices.Clone(sounds[first:next])}
	for _, at := range breaks {
		if first <= at && at <= next {
			c.Breaks = append(c.Breaks, at-first)
		}
	}
	return c
}

// end returns where the syllable of the nucleus with the number i ends.
func end(sounds []api.Sound, breaks, nuclei []int, i int) (int, api.Errno) {
	// The last syllable takes all that is left, so that no limit holds for the cluster behind it.
	if i == len(nuclei)-1 {
		return len(sounds), api.OK
	}
	coda, e := cluster.Coda(behind(sounds, breaks, nuclei, i))
	return nuclei[i] + 1 + coda, e
}

// endsWord reports whether no later nucleus is in the word of the nucleus with the number i.
func endsWord(breaks, nuclei []int, i int) bool {
	return i == len(nuclei)-1 || Word(breaks, nuclei[i]) != Word(breaks, nuclei[i+1])
}

// between returns what stands between two sounds in the text of a line.
func between(syllableEnds, wordEnds bool) string {
	switch {
	case syllableEnds && wordEnds:
		return " "
	case syllableEnds:
		return "."
	case wordEnds:
		return "_"
	}
	return ""
}
