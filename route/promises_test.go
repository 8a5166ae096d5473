package route_test

import (
	"cmp"
	"math"
	"math/big"
	"math/rand"
	"slices"
	"testing"

	"anceps/api"
	"anceps/dag"
	"anceps/route"
)

func costOf(g api.Graph, path []int) int {
	sum := 0
	for _, i := range path {
		sum += g.Arcs[i].Cost
	}
	return sum
}

// ordered returns all paths of a graph in order, and their costs.
func ordered(t *testing.T, g api.Graph) ([][]int, []int) {
	t.Helper()
	paths, e := dag.Paths(g)
	if e != api.OK {
		t.Fatalf("%v: %d", g, e)
	}
	slices.SortFunc(paths, func(a, b []int) int {
		return cmp.Or(cmp.Compare(costOf(g, a), costOf(g, b)), slices.Compare(a, b))
	})
	var costs []int
	for _, path := range paths {
		costs = append(costs, costOf(g, path))
	}
	return paths, costs
}

// allGraphs calls do with all graphs with so many nodes and arcs, in any order, and with any of the costs.
func allGraphs(nodes, arcs int, costs []int, do func(g api.Graph)) {
	var possible []api.Arc
	for from := range nodes {
		for to := from + 1; to < nodes; to++ {
			for _, cost := range costs {
				possible = append(possible, api.Arc{From: from, To: to, Cost: cost})
			}
		}
	}
	var add func(g api.Graph)
	add = func(g api.Graph) {
		if len(g.Arcs) == arcs {
			do(g)
			return
		}
		for _, arc := range possible {
			add(with(g, arc))
		}
	}
	add(api.Graph{Nodes: nodes})
}

// allLists calls do with all lists of so many numbers from low to high.
func allLists(n, low, high int, do func(l []int)) {
	l := slices.Repeat([]int{low}, n)
	for {
		do(l)
		at := 0
		for at < n && l[at] == high {
			l[at] = low
			at++
		}
		if at == n {
			return
		}
		l[at]++
	}
}

// proves reports whether potentials prove something about paths of a cost, as the chapter says.
func proves(g api.Graph, potentials []int, cost int) bool {
	if len(potentials) != g.Nodes || potentials[0] != cost || potentials[g.Nodes-1] != 0 {
		return false
	}
	for _, p := range potentials {
		if p < -1 || p > 1<<40 {
			return false
		}
	}
	for _, arc := range g.Arcs {
		p, q := potentials[arc.From], potentials[arc.To]
		if p == -1 && q != -1 || p >= 0 && q != -1 && p > arc.Cost+q {
			return false
		}
	}
	return true
}

// ways returns for each node the cost of the cheapest way from it to the end, or -1: by its arcs, as all later nodes are known.
func ways(g api.Graph) []int {
	l := slices.Repeat([]int{-1}, g.Nodes)
	l[g.Nodes-1] = 0
	for node := g.Nodes - 2; node >= 0; node-- {
		for _, arc := range g.Arcs {
			if arc.From == node && l[arc.To] >= 0 && (l[node] < 0 || arc.Cost+l[arc.To] < l[node]) {
				l[node] = arc.Cost + l[arc.To]
			}
		}
	}
	return l
}

// checkBest compares Best with the paths of a graph in order.
func checkBest(t *testing.T, g api.Graph, paths [][]int) {
	t.Helper()
	path, potentials, e := route.Best(g)
	if len(paths) == 0 {
		if len(path) != 0 || len(potentials) != 0 || e != api.ErrNone {
			t.Fatalf("%v: %v, %v, %d", g, path, potentials, e)
		}
		return
	}
	if !slices.Equal(path, paths[0]) || !slices.Equal(potentials, ways(g)) || e != api.OK {
		t.Fatalf("%v: %v, %v, %d", g, path, potentials, e)
	}
	for _, other := range paths {
		if route.Check(g, other, potentials) != (costOf(g, other) == costOf(g, path)) {
			t.Fatalf("%v, %v: Check of %v", g, potentials, other)
		}
	}
}

// P10.1, P10.2: all small graphs.
func TestAllSmallOnes(t *testing.T) {
	graphs := 0
	for _, c := range []struct {
		nodes, arcs int
		costs       []int
	}{{1, 0, nil}, {2, 0, nil}, {2, 1, upwards(4)}, {2, 2, upwards(4)}, {2, 3, upwards(3)}, {2, 4, upwards(3)}, {3, 0, nil}, {3, 1, upwards(4)}, {3, 2, upwards(4)}, {3, 3, upwards(3)}, {3, 4, upwards(2)}, {3, 5, []int{1}}, {4, 2, upwards(2)}, {4, 3, upwards(2)}, {4, 4, []int{0}}, {4, 4, []int{3}}} {
		allGraphs(c.nodes, c.arcs, c.costs, func(g api.Graph) {
			graphs++
			paths, costs := ordered(t, g)
			checkBest(t, g, paths)
			checkOrder(t, g, paths, costs)
		})
	}
	if graphs < 5000 {
		t.Errorf("only %d graphs", graphs)
	}
}

// P10.1, P10.2: Check accepts all potentials that prove something, and with them no path is cheaper.
func TestAllPotentials(t *testing.T) {
	accepted := 0
	for _, c := range []struct {
		nodes, arcs, high int
		costs             []int
	}{{1, 0, 3, nil}, {2, 0, 3, nil}, {2, 1, 3, upwards(3)}, {2, 2, 3, upwards(3)}, {3, 1, 4, upwards(3)}, {3, 2, 5, upwards(3)}, {3, 3, 3, upwards(2)}, {4, 2, 2, upwards(2)}, {4, 3, 2, []int{1}}} {
		allGraphs(c.nodes, c.arcs, c.costs, func(g api.Graph) {
			paths, costs := ordered(t, g)
			allLists(c.nodes, -2, c.high, func(potentials []int) {
				for i, path := range paths {
					is := route.Check(g, path, potentials)
					if is != proves(g, potentials, costs[i]) || is && costs[i] != costs[0] {
						t.Fatalf("%v, %v, %v: %v", g, path, potentials, is)
					}
					if is {
						accepted++
					}
				}
				if len(paths) == 0 && route.Check(g, upwards(c.arcs), potentials) {
					t.Fatalf("%v, %v: no path", g, potentials)
				}
			})
		})
	}
	if accepted < 1000 {
		t.Errorf("only %d accepted", accepted)
	}
}

// sampled returns any graph, the arcs of which lead over at most so many nodes, and cost at most so much.
func sampled(r *rand.Rand, nodes, arcs, far, cost int) api.Graph {
	g := api.Graph{Nodes: nodes}
	for range arcs {
		from := r.Intn(nodes - 1)
		g.Arcs = append(g.Arcs, api.Arc{From: from, To: min(from+1+r.Intn(far), nodes-1), Cost: r.Intn(cost + 1)})
	}
	return g
}

// P10.1, P10.2: larger graphs with up to 2000 paths.
func TestSampledOnes(t *testing.T) {
	r := rand.New(rand.NewSource(10))
	sizes := map[string]int{}
	for range 1200 {
		nodes := 2 + r.Intn(16)
		g := sampled(r, nodes, r.Intn(5*nodes), 1+r.Intn(nodes), []int{0, 2, 9, 100, 30000, api.MaxSum}[r.Intn(6)])
		n, _ := dag.Count(g)
		switch {
		case n > 2000:
			sizes["too many"]++
			checkTooMany(t, g)
		case n > 30:
			sizes["many"]++
			paths, costs := ordered(t, g)
			checkBest(t, g, paths)
			checkSome(t, r, g, paths, costs)
		case n > 1:
			sizes["some"]++
			paths, costs := ordered(t, g)
			checkBest(t, g, paths)
			checkOrder(t, g, paths, costs)
			checkDearer(t, r, g, costs[0])
		}
	}
	for _, size := range []string{"too many", "many", "some"} {
		if sizes[size] < 50 {
			t.Errorf("%s: only %d", size, sizes[size])
		}
	}
}

// checkTooMany checks a graph with more than 2000 paths.
func checkTooMany(t *testing.T, g api.Graph) {
	t.Helper()
	path, potentials, e := route.Best(g)
	if e != api.OK || !route.Check(g, path, potentials) || !slices.Equal(potentials, ways(g)) {
		t.Fatalf("%v: %v, %v, %d", g, path, potentials, e)
	}
	_, e1 := route.List(g, 1)
	_, e2 := route.Within(g, 0)
	_, e3 := route.Next(g, path)
	_, e4 := route.Rank(g, path)
	for _, e := range []api.Errno{e1, e2, e3, e4} {
		if e != api.ErrTooLarge {
			t.Fatalf("%v: %d, %d, %d, %d", g, e1, e2, e3, e4)
		}
	}
}

// checkSome compares some results with the paths of a graph in order.
func checkSome(t *testing.T, r *rand.Rand, g api.Graph, paths [][]int, costs []int) {
	t.Helper()
	for range 5 {
		i := r.Intn(len(paths))
		l, e := route.List(g, i)
		if !equalLists(l, paths[:i]) || e != api.OK {
			t.Fatalf("%v: List of %d: %v, %d", g, i, l, e)
		}
		n, _ := slices.BinarySearch(costs, costs[i]+1)
		within, e := route.Within(g, costs[i])
		if !equalLists(within, paths[:n]) || e != api.OK {
			t.Fatalf("%v: Within %d: %v, %d", g, costs[i], within, e)
		}
		if m, e := route.Ways(g, costs[i]); costs[i] <= 60000 && (m != int64(n) || e != api.OK) {
			t.Fatalf("%v: Ways of %d: %d, %d", g, costs[i], m, e)
		}
		if rank, e := route.Rank(g, paths[i]); rank != i || e != api.OK {
			t.Fatalf("%v: Rank of %v: %d, %d", g, paths[i], rank, e)
		}
		if next, e := route.Next(g, paths[i]); i+1 < len(paths) && (!slices.Equal(next, paths[i+1]) || e != api.OK) {
			t.Fatalf("%v: Next of %v: %v, %d", g, paths[i], next, e)
		}
	}
}

// checkDearer checks that the first path becomes no cheaper if an arc becomes dearer.
func checkDearer(t *testing.T, r *rand.Rand, g api.Graph, cost int) {
	t.Helper()
	g = cloned(g)
	i := r.Intn(len(g.Arcs))
	g.Arcs[i].Cost += r.Intn(api.MaxSum - g.Arcs[i].Cost + 1)
	path, potentials, e := route.Best(g)
	if e != api.OK || costOf(g, path) < cost || potentials[0] != costOf(g, path) {
		t.Fatalf("%v: %v, %v, %d", g, path, potentials, e)
	}
}

// countsOf returns how many paths of a graph have which cost, of any size, from 0 to most.
func countsOf(g api.Graph, most int) []*big.Int {
	counts := make([][]*big.Int, g.Nodes)
	for node := range counts {
		for range most + 1 {
			counts[node] = append(counts[node], new(big.Int))
		}
	}
	counts[0][0].SetInt64(1)
	arcs := slices.Clone(g.Arcs)
	slices.SortFunc(arcs, func(a, b api.Arc) int { return a.From - b.From })
	for _, arc := range arcs {
		for cost := arc.Cost; cost <= most; cost++ {
			sum := counts[arc.To][cost]
			sum.Add(sum, counts[arc.From][cost-arc.Cost])
		}
	}
	return counts[g.Nodes-1]
}

// P10.1: numbers of paths up to 2^62 and beyond.
func TestSampledWays(t *testing.T) {
	r := rand.New(rand.NewSource(100))
	limit := new(big.Int).Lsh(big.NewInt(1), 62)
	kinds := map[string]int{}
	for range 40 {
		nodes := 10 + r.Intn(100)
		g := sampled(r, nodes, 2*nodes+r.Intn(4*nodes), 1+r.Intn(4), 1+r.Intn(5))
		sum := new(big.Int)
		for cost, n := range countsOf(g, 150) {
			sum.Add(sum, n)
			got, e := route.Ways(g, cost)
			switch {
			case sum.Cmp(limit) > 0:
				kinds["too large"]++
				if got != 0 || e != api.ErrTooLarge {
					t.Fatalf("%v, %d: %d, %d", g, cost, got, e)
				}
			case got != sum.Int64() || e != api.OK:
				t.Fatalf("%v, %d: %d, %d instead of %v", g, cost, got, e, sum)
			case got > 2000:
				kinds["many"]++
			case got > 0:
				kinds["some"]++
			}
		}
	}
	for _, kind := range []string{"too large", "many", "some"} {
		if kinds[kind] < 100 {
			t.Errorf("%s: only %d", kind, kinds[kind])
		}
	}
}

// P10.1: graphs as large as they can be.
func TestLargeOnes(t *testing.T) {
	r := rand.New(rand.NewSource(1000))
	for range 10 {
		g := sampled(r, api.MaxPlaces, api.MaxSteps, 1+r.Intn(1200), api.MaxSum)
		path, potentials, e := route.Best(g)
		if e == api.ErrNone {
			continue
		}
		if e != api.OK || !proves(g, potentials, costOf(g, path)) || !route.Check(g, path, potentials) {
			t.Fatalf("%d arcs, %d", len(path), e)
		}
		if n, e := route.Ways(g, 60000); e != api.OK || (n > 0) != (potentials[0] <= 60000) {
			t.Fatalf("%d, %d: %d", n, e, potentials[0])
		}
	}
	// Nearly all of the costs up to 60000 are those of ways.
	g := sampled(r, api.MaxPlaces, api.MaxSteps, 9, 700)
	if n, e := route.Ways(g, 60000); n != 0 || e != api.ErrTooLarge {
		t.Errorf("%d, %d", n, e)
	}
}

// P1: any numbers at all.
func TestAnyNumbers(t *testing.T) {
	r := rand.New(rand.NewSource(10000))
	numbers := []int{0, 1, 2, 3, -1, 4, 1000000, 1000001, 2000, 2001, 60000, 60001, math.MaxInt, math.MinInt}
	one := func() int { return numbers[r.Intn(2+r.Intn(len(numbers)-1))] }
	list := func() []int {
		l := make([]int, r.Intn(5))
		for i := range l {
			l[i] = one()
		}
		return l
	}
	valid, proved := 0, 0
	for range 200000 {
		g := api.Graph{Nodes: one()}
		for range r.Intn(4) {
			g.Arcs = append(g.Arcs, api.Arc{From: one(), To: one(), Cost: one()})
		}
		path, potentials := list(), list()
		if dag.Valid(g) == api.OK {
			valid++
			is := route.Check(g, path, potentials)
			if is {
				proved++
			}
			if is != (dag.Check(g, path) && proves(g, potentials, costOf(g, path))) {
				t.Fatalf("%v, %v, %v: %v", g, path, potentials, is)
			}
			checkAny(t, g, path, one())
			continue
		}
		if route.Check(g, path, potentials) {
			t.Fatalf("%v, %v, %v", g, path, potentials)
		}
		checkNothing(t, g, path, one(), dag.Valid(g))
	}
	if valid < 5000 || proved < 50 {
		t.Errorf("only %d valid ones, %d accepted", valid, proved)
	}
}

// checkAny checks the errors of a graph with few paths for any list and any number.
func checkAny(t *testing.T, g api.Graph, path []int, n int) {
	t.Helper()
	_, rankError := route.Rank(g, path)
	next, nextError := route.Next(g, path)
	if is := dag.Check(g, path); is != (rankError == api.OK) || is && nextError != api.OK && nextError != api.ErrNone || !is && (rankError != api.ErrInvalid || nextError != api.ErrInvalid) || nextError == api.OK && !dag.Check(g, next) {
		t.Fatalf("%v, %v: %d, %d", g, path, rankError, nextError)
	}
	_, listError := route.List(g, n)
	within, withinError := route.Within(g, n)
	ways, waysError := route.Ways(g, n)
	if (listError == api.OK) != (n >= 0 && n <= 2000) || (withinError == api.OK) != (n >= 0) || (waysError == api.OK) != (n >= 0 && n <= 60000) || waysError == api.OK && ways != int64(len(within)) {
		t.Fatalf("%v, %d: %d, %d, %d, %d", g, n, listError, withinError, waysError, ways)
	}
}
