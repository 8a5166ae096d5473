package route

import (
	"cmp"
	"slices"

	"anceps/api"
)

// byFrom returns the indices of the arcs in the order of the nodes from which they lead, those from one node ascending.
// As all arcs lead upwards, whatever leads to a node stands ahead of what leads from it.
func byFrom(g api.Graph) []int {
	order := make([]int, len(g.Arcs))
	for i := range order {
		order[i] = i
	}
	slices.SortStableFunc(order, func(i, k int) int { return cmp.Compare(g.Arcs[i].From, g.Arcs[k].From) })
	return order
}

// cheapest returns for each node of a valid graph the cost of the cheapest way from it to the end, or -1 if there is none.
func cheapest(g api.Graph, order []int) []int {
	costs := slices.Repeat([]int{-1}, g.Nodes)
	costs[g.Nodes-1] = 0
	for _, i := range slices.Backward(order) {
		arc := g.Arcs[i]
		if costs[arc.To] < 0 {
			continue
		}
		cost := arc.Cost + costs[arc.To]
		if costs[arc.From] < 0 || cost < costs[arc.From] {
			costs[arc.From] = cost
		}
	}
	return costs
}

// follow returns the first path of a graph that has one: at each node it takes the first arc that costs no more than the potential falls.
func follow(g api.Graph, order, potentials []int) []int {
	var path []int
	at := start
	for _, i := range order {
		arc := g.Arcs[i]
		if arc.From == at && potentials[arc.To] >= 0 && arc.Cost+potentials[arc.To] == potentials[at] {
			path = append(path, i)
			at = arc.To
		}
	}
	return path
}

// prove reports whether potentials, one for each node of a valid graph, prove that a path of this cost is a cheapest one.
func prove(g api.Graph, potentials []int, cost int) bool {
	for _, p := range potentials {
		if p < -1 || p > maxPotential {
			return false
		}
	}
	if potentials[start] != cost || potentials[g.Nodes-1] != 0 {
		return false
	}
	breaks := func(arc api.Arc) bool {
		p, q := potentials[arc.From], potentials[arc.To]
		return q >= 0 && (p < 0 || p > arc.Cost+q)
	}
	return !slices.ContainsFunc(g.Arcs, breaks)
}
