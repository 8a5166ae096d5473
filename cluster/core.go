package cluster

import (
	"anceps/api"
	"anceps/sound"
)

// places returns the indices of the sounds that are no breath.
func places(sounds []api.Sound) []int {
	var core []int
	for i, s := range sounds {
		if s.Kind != api.Breath {
			core = append(core, i)
		}
	}
	return core
}

// class returns the class of a valid cluster.
func class(c api.Cluster) int {
	if sound.Beats(c.Sounds) <= 1 {
		return api.ClassOpen
	}
	core := places(c.Sounds)
	if !isMuteAndLiquid(c.Sounds, core) {
		return api.ClassClosed
	}
	// Breaks do not descend, so that the first one and the last one speak for all.
	mute, liquid := core[0], core[1]
	switch {
	case len(c.Breaks) == 0 || c.Breaks[0] > liquid:
		return api.ClassMute
	case c.Breaks[len(c.Breaks)-1] <= mute:
		return api.ClassNext
	}
	return api.ClassClosed
}

// isMuteAndLiquid reports whether the sounds at some places are exactly a mute and then a liquid.
func isMuteAndLiquid(sounds []api.Sound, at []int) bool {
	return len(at) == 2 && sounds[at[0]].Kind == api.Mute && sounds[at[1]].Kind == api.Liquid
}

// moved returns breaks that stand so many sounds later.
func moved(breaks []int, by int) []int {
	var later []int
	for _, at := range breaks {
		later = append(later, at+by)
	}
	return later
}
