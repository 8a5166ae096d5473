package dag_test

import (
	"math"
	"math/big"
	"math/rand"
	"slices"
	"testing"

	"anceps/api"
	"anceps/dag"
)

// isPath reports whether a list is a path, as the chapter says.
func isPath(g api.Graph, path []int) bool {
	if len(path) == 0 {
		return g.Nodes == 1
	}
	for i, index := range path {
		if index < 0 || index >= len(g.Arcs) || i > 0 && g.Arcs[path[i-1]].To != g.Arcs[index].From {
			return false
		}
	}
	return g.Arcs[path[0]].From == 0 && g.Arcs[path[len(path)-1]].To == g.Nodes-1
}

// isCut reports whether the nodes with a bit in set are a cut, as the chapter says.
func isCut(g api.Graph, set uint64) bool {
	for _, arc := range g.Arcs {
		if set>>arc.From&1 == 1 && set>>arc.To&1 == 0 {
			return false
		}
	}
	return set&1 == 1 && set>>(g.Nodes-1)&1 == 0
}

// indexLists returns all lists of at most so many numbers from -1 to n, in lexicographic order.
func indexLists(n, most int) [][]int {
	all := [][]int{nil}
	var add func(l []int)
	add = func(l []int) {
		if len(l) == most {
			return
		}
		for i := -1; i <= n; i++ {
			longer := append(slices.Clone(l), i)
			all = append(all, longer)
			add(longer)
		}
	}
	add(nil)
	return all
}

func costOf(g api.Graph, path []int) int {
	sum := 0
	for _, i := range path {
		sum += g.Arcs[i].Cost
	}
	return sum
}

// possibleArcs returns the arcs that a graph with so many nodes can have, apart from their costs.
func possibleArcs(nodes int) []api.Arc {
	var l []api.Arc
	for from := range nodes {
		for to := from + 1; to < nodes; to++ {
			l = append(l, api.Arc{From: from, To: to})
		}
	}
	return l
}

// allGraphs calls do with all graphs with so many nodes and arcs, in any order, the arcs with different costs.
func allGraphs(nodes, arcs int, do func(g api.Graph)) {
	possible := possibleArcs(nodes)
	var add func(g api.Graph)
	add = func(g api.Graph) {
		if len(g.Arcs) == arcs {
			do(g)
			return
		}
		for _, arc := range possible {
			arc.Cost = 1 << len(g.Arcs)
			add(with(g, arc))
		}
	}
	add(api.Graph{Nodes: nodes})
}

// P9.1, P9.2: all small graphs, with all lists that could be paths, and all sets that could be cuts.
func TestAllSmallOnes(t *testing.T) {
	graphs := 0
	for _, c := range []struct{ nodes, arcs int }{{1, 0}, {2, 0}, {2, 1}, {2, 2}, {2, 3}, {2, 4}, {3, 0}, {3, 1}, {3, 2}, {3, 3}, {3, 4}, {3, 5}, {4, 0}, {4, 1}, {4, 2}, {4, 3}, {4, 4}, {5, 1}, {5, 2}, {5, 3}} {
		all := indexLists(c.arcs, c.nodes)
		allGraphs(c.nodes, c.arcs, func(g api.Graph) {
			graphs++
			checkPaths(t, g, all)
			checkCuts(t, g)
		})
	}
	if graphs < 2500 {
		t.Errorf("only %d graphs", graphs)
	}
}

// checkPaths compares what a graph says about paths with the lists that are paths.
func checkPaths(t *testing.T, g api.Graph, all [][]int) {
	t.Helper()
	var paths [][]int
	for _, l := range all {
		is, cost, want := isPath(g, l), 0, api.ErrInvalid
		if is {
			paths = append(paths, l)
			cost, want = costOf(g, l), api.OK
		}
		if got, e := dag.Cost(g, l); dag.Check(g, l) != is || got != cost || e != want {
			t.Fatalf("%v, %v: %d, %d", g, l, got, e)
		}
	}
	n, e1 := dag.Count(g)
	got, e2 := dag.Paths(g)
	if dag.Valid(g) != api.OK || n != int64(len(paths)) || e1 != api.OK || !equalLists(got, paths) || e2 != api.OK {
		t.Fatalf("%v: %d, %v instead of %v, %d, %d", g, n, got, paths, e1, e2)
	}
	checkTrim(t, g, paths)
	checkReverse(t, g, paths)
}

// checkTrim compares Trim with the nodes that stand on paths.
func checkTrim(t *testing.T, g api.Graph, paths [][]int) {
	t.Helper()
	trimmed, former, e := dag.Trim(g)
	if len(paths) == 0 {
		if !isZero(trimmed) || len(former) != 0 || e != api.ErrNone {
			t.Fatalf("%v: %v, %v, %d", g, trimmed, former, e)
		}
		return
	}
	useful := []int{0, g.Nodes - 1}
	for _, path := range paths {
		for _, i := range path {
			useful = append(useful, g.Arcs[i].From)
		}
	}
	slices.Sort(useful)
	useful = slices.Compact(useful)
	want := api.Graph{Nodes: len(useful)}
	for _, arc := range g.Arcs {
		from, to := slices.Index(useful, arc.From), slices.Index(useful, arc.To)
		if from >= 0 && to >= 0 {
			want.Arcs = append(want.Arcs, api.Arc{From: from, To: to, Cost: arc.Cost})
		}
	}
	if !equal(trimmed, want) || !slices.Equal(former, useful) || e != api.OK {
		t.Fatalf("%v: %v, %v, %d", g, trimmed, former, e)
	}
	keepsPaths(t, g, trimmed, paths)
	again, same, e := dag.Trim(trimmed)
	if !equal(again, trimmed) || !slices.Equal(same, upwards(len(useful))) || e != api.OK {
		t.Fatalf("%v: trimmed twice %v, %v, %d", g, again, same, e)
	}
}

// keepsPaths reports a graph that has not as many paths with the same costs as another one, whose paths are given.
func keepsPaths(t *testing.T, g, h api.Graph, paths [][]int) {
	t.Helper()
	others, e := dag.Paths(h)
	if e != api.OK || dag.Valid(h) != api.OK {
		t.Fatalf("%v, %v: %d", g, h, e)
	}
	var costs, otherCosts []int
	for _, path := range paths {
		costs = append(costs, costOf(g, path))
	}
	for _, path := range others {
		otherCosts = append(otherCosts, costOf(h, path))
	}
	slices.Sort(costs)
	slices.Sort(otherCosts)
	if !slices.Equal(costs, otherCosts) {
		t.Fatalf("%v, %v: %v, %v", g, h, costs, otherCosts)
	}
}

// checkReverse compares the paths of the reversed graph with the paths that are given, backwards.
func checkReverse(t *testing.T, g api.Graph, paths [][]int) {
	t.Helper()
	r, e := dag.Reverse(g)
	if e != api.OK || dag.Valid(r) != api.OK || r.Nodes != g.Nodes || len(r.Arcs) != len(g.Arcs) {
		t.Fatalf("%v: %v, %d", g, r, e)
	}
	for i, arc := range r.Arcs {
		if from := g.Arcs[i]; arc.From != g.Nodes-1-from.To || arc.To != g.Nodes-1-from.From || arc.Cost != from.Cost {
			t.Fatalf("%v: %v", g, r)
		}
	}
	if back, e := dag.Reverse(r); !equal(back, g) || e != api.OK {
		t.Fatalf("%v: comes back as %v, %d", g, back, e)
	}
	var want [][]int
	for _, path := range paths {
		path = slices.Clone(path)
		slices.Reverse(path)
		want = append(want, path)
	}
	slices.SortFunc(want, slices.Compare)
	if got, e := dag.Paths(r); !equalLists(got, want) || e != api.OK {
		t.Fatalf("%v: %v, %v, %d", g, r, got, e)
	}
}

// checkCuts compares what a graph with few nodes says about cuts with the sets that are cuts: there is one exactly if there is no path.
func checkCuts(t *testing.T, g api.Graph) {
	t.Helper()
	all := upwards(g.Nodes)
	some := false
	for set := range uint64(1) << g.Nodes {
		l := slices.DeleteFunc(slices.Clone(all), func(node int) bool { return set>>node&1 == 0 })
		if dag.CheckCut(g, l) != isCut(g, set) {
			t.Fatalf("%v, %v: %v", g, l, !isCut(g, set))
		}
		some = some || isCut(g, set)
	}
	n, _ := dag.Count(g)
	cut, e := dag.Cut(g)
	if some == (n > 0) || some && (!dag.CheckCut(g, cut) || e != api.OK) || !some && (len(cut) != 0 || e != api.ErrSome) {
		t.Fatalf("%v: %v, %d", g, cut, e)
	}
	if some && !slices.Equal(cut, reachable(g)) {
		t.Fatalf("%v: %v instead of %v", g, cut, reachable(g))
	}
}

// reachable returns the nodes to which a way from the start leads, by trying all arcs until nothing is new.
func reachable(g api.Graph) []int {
	l := []int{0}
	for {
		known := len(l)
		for _, arc := range g.Arcs {
			if slices.Contains(l, arc.From) && !slices.Contains(l, arc.To) {
				l = append(l, arc.To)
			}
		}
		if len(l) == known {
			slices.Sort(l)
			return l
		}
	}
}

// sampled returns any graph, the arcs of which lead over at most so many nodes.
func sampled(r *rand.Rand, nodes, arcs, far int) api.Graph {
	g := api.Graph{Nodes: nodes}
	for range arcs {
		from := r.Intn(nodes - 1)
		g.Arcs = append(g.Arcs, api.Arc{From: from, To: min(from+1+r.Intn(far), nodes-1), Cost: r.Intn(api.MaxSum + 1)})
	}
	return g
}

// countOf returns the number of paths of a graph, of any size.
func countOf(g api.Graph) *big.Int {
	ways := make([]*big.Int, g.Nodes)
	for node := range ways {
		ways[node] = new(big.Int)
	}
	ways[0].SetInt64(1)
	arcs := slices.Clone(g.Arcs)
	slices.SortFunc(arcs, func(a, b api.Arc) int { return a.From - b.From })
	for _, arc := range arcs {
		ways[arc.To].Add(ways[arc.To], ways[arc.From])
	}
	return ways[g.Nodes-1]
}

// P9.1, P9.2: larger graphs of all sizes.
func TestSampledOnes(t *testing.T) {
	r := rand.New(rand.NewSource(9))
	limit := new(big.Int).Lsh(big.NewInt(1), 62)
	kinds := map[string]int{}
	for range 3000 {
		nodes := 2 + r.Intn(2+r.Intn(60))
		g := sampled(r, nodes, r.Intn(4*nodes), 1+r.Intn(nodes))
		if r.Intn(10) == 0 {
			nodes = 40 + r.Intn(100)
			g = sampled(r, nodes, 2*nodes+r.Intn(4*nodes), 1+r.Intn(4))
		}
		n, e := dag.Count(g)
		switch want := countOf(g); {
		case want.Cmp(limit) > 0:
			if n != 0 || e != api.ErrTooLarge {
				t.Fatalf("%v: %d, %d", g, n, e)
			}
			kinds["too large"]++
		case !want.IsInt64() || n != want.Int64() || e != api.OK:
			t.Fatalf("%v: %d, %d", g, n, e)
		case n == 0:
			kinds["none"]++
		case n > 2000:
			kinds["many"]++
		default:
			kinds["some"]++
		}
		checkLarge(t, g, n, e)
	}
	for _, kind := range []string{"too large", "none", "many", "some"} {
		if kinds[kind] < 100 {
			t.Errorf("%s: only %d", kind, kinds[kind])
		}
	}
}

// checkLarge checks what follows from the number of paths of a graph.
func checkLarge(t *testing.T, g api.Graph, n int64, e api.Errno) {
	t.Helper()
	paths, pathsError := dag.Paths(g)
	few := e == api.OK && n <= api.MaxChoices
	if few && (int64(len(paths)) != n || pathsError != api.OK) || !few && (len(paths) != 0 || pathsError != api.ErrTooLarge) {
		t.Fatalf("%v: %d paths, %d", g, len(paths), pathsError)
	}
	for i, path := range paths {
		cost, e := dag.Cost(g, path)
		if !isPath(g, path) || cost != costOf(g, path) || e != api.OK || i > 0 && slices.Compare(paths[i-1], path) >= 0 {
			t.Fatalf("%v: %v, %d, %d", g, path, cost, e)
		}
	}
	if few {
		checkTrim(t, g, paths)
		checkReverse(t, g, paths)
	}
	cut, cutError := dag.Cut(g)
	none := e == api.OK && n == 0
	if none && (!slices.Equal(cut, reachable(g)) || !dag.CheckCut(g, cut) || cutError != api.OK) || !none && (len(cut) != 0 || cutError != api.ErrSome || dag.CheckCut(g, reachable(g))) {
		t.Fatalf("%v: %v, %d", g, cut, cutError)
	}
	checkSizes(t, g, n, e)
}

// checkSizes compares the number of paths with that of the trimmed and of the reversed graph.
func checkSizes(t *testing.T, g api.Graph, n int64, e api.Errno) {
	t.Helper()
	r, e1 := dag.Reverse(g)
	if m, f := dag.Count(r); m != n || f != e || e1 != api.OK {
		t.Fatalf("%v: reversed %d, %d, %d", g, m, f, e1)
	}
	trimmed, former, e2 := dag.Trim(g)
	if e == api.OK && n == 0 {
		if e2 != api.ErrNone {
			t.Fatalf("%v: %d", g, e2)
		}
		return
	}
	if m, f := dag.Count(trimmed); m != n || f != e || e2 != api.OK || len(former) != trimmed.Nodes {
		t.Fatalf("%v: trimmed %d, %d, %d", g, m, f, e2)
	}
	if again, same, f := dag.Trim(trimmed); !equal(again, trimmed) || !slices.Equal(same, upwards(trimmed.Nodes)) || f != api.OK {
		t.Fatalf("%v: trimmed twice %v, %d", g, again, f)
	}
}

// P9.1, P9.2: graphs as large as they can be.
func TestLargeOnes(t *testing.T) {
	r := rand.New(rand.NewSource(99))
	for range 40 {
		g := sampled(r, api.MaxPlaces, api.MaxSteps-r.Intn(3000), 1+r.Intn(1200))
		n, e := dag.Count(g)
		want := countOf(g)
		if large := want.BitLen() > 63; large != (e == api.ErrTooLarge) || !large && n != want.Int64() {
			t.Fatalf("%d, %d instead of %v", n, e, want)
		}
		checkLarge(t, g, n, e)
	}
}

// P1: any numbers at all.
func TestAnyNumbers(t *testing.T) {
	r := rand.New(rand.NewSource(999))
	numbers := []int{0, 1, 2, 3, -1, 4, 1000000, 1000001, 2000, 2001, math.MaxInt, math.MinInt}
	one := func() int { return numbers[r.Intn(2+r.Intn(len(numbers)-1))] }
	list := func() []int {
		l := make([]int, r.Intn(5))
		for i := range l {
			l[i] = one()
		}
		return l
	}
	valid := 0
	for range 200000 {
		g := api.Graph{Nodes: one()}
		for range r.Intn(4) {
			g.Arcs = append(g.Arcs, api.Arc{From: one(), To: one(), Cost: one()})
		}
		e := dag.Valid(g)
		path, nodes := list(), list()
		cost, e1 := dag.Cost(g, path)
		n, e2 := dag.Count(g)
		_, e3 := dag.Paths(g)
		_, e4 := dag.Cut(g)
		_, _, e5 := dag.Trim(g)
		_, e6 := dag.Reverse(g)
		if e == api.OK {
			valid++
			if is := isPath(g, path); dag.Check(g, path) != is || is != (e1 == api.OK) || is && cost != costOf(g, path) || (n == 0) != (e4 == api.OK) || n != 0 && dag.CheckCut(g, nodes) {
				t.Fatalf("%v, %v, %v: %d, %d, %d, %d", g, path, nodes, cost, e1, n, e4)
			}
			continue
		}
		for _, other := range []api.Errno{e1, e2, e3, e4, e5, e6} {
			if other != e || dag.Check(g, path) || dag.CheckCut(g, nodes) {
				t.Fatalf("%v: %d, %d", g, e, other)
			}
		}
	}
	if valid < 5000 {
		t.Errorf("only %d valid ones", valid)
	}
}
