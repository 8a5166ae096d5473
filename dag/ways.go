package dag

import (
	"slices"

	"anceps/api"
)

// outgoing returns for each node of a valid graph the indices of the arcs that lead from it, ascending.
func outgoing(g api.Graph) [][]int {
	l := make([][]int, g.Nodes)
	for i, arc := range g.Arcs {
		l[arc.From] = append(l[arc.From], i)
	}
	return l
}

// reach marks the nodes of a valid graph to which a way from the start leads. All arcs lead upwards, so that a node is done before its arcs are followed.
func reach(g api.Graph) []bool {
	reached := make([]bool, g.Nodes)
	reached[start] = true
	for node, arcs := range outgoing(g) {
		if !reached[node] {
			continue
		}
		for _, i := range arcs {
			reached[g.Arcs[i].To] = true
		}
	}
	return reached
}

// waysOn returns for each node of a valid graph how many ways lead from it to the end.
// Numbers above maxCount all become maxCount+1: nodes to which no way from the start leads can have any numbers.
func waysOn(g api.Graph) []uint64 {
	ways := make([]uint64, g.Nodes)
	ways[end(g)] = 1
	for node, arcs := range slices.Backward(outgoing(g)) {
		for _, i := range arcs {
			ways[node] = min(ways[node]+ways[g.Arcs[i].To], maxCount+1)
		}
	}
	return ways
}

// lister lists paths.
type lister struct {
	graph api.Graph
	arcs  [][]int // by node: the arcs from it that belong to a way to the end
	path  []int
	paths [][]int
}

func newLister(g api.Graph) *lister {
	ways := waysOn(g)
	arcs := outgoing(g)
	for node, l := range arcs {
		arcs[node] = slices.DeleteFunc(l, func(i int) bool { return ways[g.Arcs[i].To] == 0 })
	}
	return &lister{graph: g, arcs: arcs}
}

// list adds the paths that go on with the ways from a node to the end, in lexicographic order.
func (l *lister) list(node int) {
	if node == end(l.graph) {
		l.paths = append(l.paths, slices.Clone(l.path))
		return
	}
	for _, i := range l.arcs[node] {
		l.path = append(l.path, i)
		l.list(l.graph.Arcs[i].To)
		l.path = l.path[:len(l.path)-1]
	}
}
