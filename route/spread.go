package route

import (
	"slices"

	"anceps/api"
	"anceps/dag"
)

// spread tells how many ways lead from a node to the end: ways[k] of them cost low+k.
// Numbers above maxCount all become maxCount+1.
type spread struct {
	low  int
	ways []uint64
}

// add adds the ways of another node that an arc makes dearer, as far as they cost at most limit.
func (s *spread) add(other spread, arcCost, limit int) {
	shift := arcCost + other.low - s.low
	n := min(len(other.ways), limit-arcCost-other.low+1)
	if n <= 0 {
		return
	}
	if more := shift + n - len(s.ways); more > 0 {
		s.ways = append(s.ways, make([]uint64, more)...)
	}
	for k, w := range other.ways[:n] {
		s.ways[shift+k] = min(s.ways[shift+k]+w, maxCount+1)
	}
}

func (s *spread) sum() uint64 {
	n := uint64(0)
	for _, w := range s.ways {
		n = min(n+w, maxCount+1)
	}
	return n
}

// countWithin returns the number of paths of a valid graph that cost at most limit, or maxCount+1 if there are more than maxCount.
func countWithin(g api.Graph, limit int) uint64 {
	g, _, e := dag.Trim(g)
	if e != api.OK {
		return 0
	}
	order := byFrom(g)
	spreads := make([]spread, g.Nodes)
	for node, cost := range cheapest(g, order) {
		spreads[node].low = cost
	}
	spreads[g.Nodes-1].ways = []uint64{1}
	open := arcsTo(g)
	for _, i := range slices.Backward(order) {
		arc := g.Arcs[i]
		spreads[arc.From].add(spreads[arc.To], arc.Cost, limit)
		// A spread can take half a megabyte, so that it is not kept longer than it is needed.
		if open[arc.To]--; open[arc.To] == 0 {
			spreads[arc.To].ways = nil
		}
	}
	return spreads[start].sum()
}

// arcsTo returns for each node how many arcs lead to it.
func arcsTo(g api.Graph) []int {
	n := make([]int, g.Nodes)
	for _, arc := range g.Arcs {
		n[arc.To]++
	}
	return n
}
