package cluster

import (
	"anceps/api"
	"anceps/sound"
)

const (
	maxSounds = 12 // sounds of a cluster
	maxBreaks = 12 // breaks of a cluster
)

// isTooLarge reports whether a cluster has too many sounds or breaks.
func isTooLarge(c api.Cluster) bool {
	return len(c.Sounds) > maxSounds || len(c.Breaks) > maxBreaks
}

// soundsFault returns the error of the first sound that cannot be part of a cluster, or OK.
func soundsFault(sounds []api.Sound) api.Errno {
	for _, s := range sounds {
		if e := sound.Valid(s); e != api.OK {
			return e
		}
		if sound.Nucleus(s) {
			return api.ErrInvalid
		}
	}
	return api.OK
}

// breaksFault returns the error of the first break that cannot stand among so many sounds, or behind the one before, or OK.
func breaksFault(breaks []int, sounds int) api.Errno {
	for i, at := range breaks {
		if at < 0 || at > sounds {
			return api.ErrRange
		}
		if i > 0 && at < breaks[i-1] {
			return api.ErrOrder
		}
	}
	return api.OK
}
