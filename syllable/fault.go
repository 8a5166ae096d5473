package syllable

import (
	"anceps/api"
	"anceps/sound"
)

const (
	maxSounds = 200 // sounds of a line
	maxBreaks = 20  // breaks of a line
)

// lineFault returns the error of the sounds of a line, or OK.
func lineFault(sounds []api.Sound, breaks []int) api.Errno {
	if len(sounds) > maxSounds {
		return api.ErrTooLarge
	}
	for _, s := range sounds {
		if e := sound.Valid(s); e != api.OK {
			return e
		}
	}
	if len(breaks) > maxBreaks {
		return api.ErrTooLarge
	}
	return breaksFault(breaks, len(sounds))
}

// breaksFault returns the error of the first break that cannot stand among so many sounds, or behind the one before, or OK.
func breaksFault(breaks []int, sounds int) api.Errno {
	for i, at := range breaks {
		if at < 0 || at > sounds {
			return api.ErrRange
		}
		if i > 0 && at < breaks[i-1] {
			return api.ErrOrder
		}
	}
	return api.OK
}

// isAmong reports whether a syllable has its nucleus and its ends among some sounds.
func isAmong(s api.Syllable, sounds []api.Sound) bool {
	inOrder := 0 <= s.From && s.From <= s.Nucleus && s.Nucleus < s.To && s.To <= len(sounds)
	return inOrder && sound.Nucleus(sounds[s.Nucleus])
}
