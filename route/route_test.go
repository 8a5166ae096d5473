package route_test

import (
	"math"
	"reflect"
	"slices"
	"strconv"
	"strings"
	"testing"

	"anceps/api"
	"anceps/route"
)

// numbers returns the numbers of a text, with spaces between them.
func numbers(s string) []int {
	var l []int
	for _, f := range strings.Fields(s) {
		n, e := strconv.Atoi(f)
		if e != nil {
			panic(e)
		}
		l = append(l, n)
	}
	return l
}

// lists returns the lists of numbers of a text, with commas between them.
func lists(s string) [][]int {
	if s == "" {
		return nil
	}
	var l [][]int
	for _, part := range strings.Split(s, ",") {
		l = append(l, numbers(part))
	}
	return l
}

// graph returns a graph; each arc is written with three numbers: From, To, Cost.
func graph(nodes int, arcs string) api.Graph {
	g := api.Graph{Nodes: nodes}
	for l := range slices.Chunk(numbers(arcs), 3) {
		g.Arcs = append(g.Arcs, api.Arc{From: l[0], To: l[1], Cost: l[2]})
	}
	return g
}

// chain returns a graph with so many steps, each of them from a node to the next one with an arc for each of the costs.
func chain(steps int, costs ...int) api.Graph {
	g := api.Graph{Nodes: steps + 1}
	for from := range steps {
		for _, cost := range costs {
			g.Arcs = append(g.Arcs, api.Arc{From: from, To: from + 1, Cost: cost})
		}
	}
	return g
}

// wide returns a graph with n paths of one arc each, all of the same cost.
func wide(n, cost int) api.Graph {
	return chain(1, slices.Repeat([]int{cost}, n)...)
}

// with returns a graph with more arcs behind its own.
func with(g api.Graph, arcs ...api.Arc) api.Graph {
	g.Arcs = slices.Concat(g.Arcs, arcs)
	return g
}

// jump is an arc from the start to the end.
func jump(g api.Graph, cost int) api.Arc {
	return api.Arc{To: g.Nodes - 1, Cost: cost}
}

// behind returns a graph in which the end is a new node to which only an arc from the start leads.
func behind(g api.Graph, cost int) api.Graph {
	g.Nodes++
	return with(g, jump(g, cost))
}

// ahead returns a graph in which the start is a new node from which only an arc to the end leads.
func ahead(g api.Graph, cost int) api.Graph {
	h := api.Graph{Nodes: g.Nodes + 1}
	for _, arc := range g.Arcs {
		h.Arcs = append(h.Arcs, api.Arc{From: arc.From + 1, To: arc.To + 1, Cost: arc.Cost})
	}
	return with(h, jump(h, cost))
}

func cloned(g api.Graph) api.Graph {
	g.Arcs = slices.Clone(g.Arcs)
	return g
}

func equal(g, h api.Graph) bool {
	return g.Nodes == h.Nodes && slices.Equal(g.Arcs, h.Arcs)
}

func equalLists(a, b [][]int) bool {
	return slices.EqualFunc(a, b, slices.Equal)
}

// upwards returns the numbers from 0 to n - 1.
func upwards(n int) []int {
	l := make([]int, n)
	for i := range l {
		l[i] = i
	}
	return l
}

// example is the graph of the chapter.
func example() api.Graph { return graph(3, "0 1 2 1 2 1 0 2 3 0 1 2") }

// mixed has a node that leads nowhere (4), one without arcs (3), several paths of the same cost, and arcs in any order.
func mixed() api.Graph {
	return graph(7, "5 6 1 2 5 2 0 2 3 1 2 4 0 4 5 0 1 8 2 5 7 0 5 8 0 6 9 1 6 1 2 6 6")
}

// P10.1: the examples of the chapter.
func TestExamples(t *testing.T) {
	g := example()
	if l, e := route.List(g, 2000); !equalLists(l, lists("0 1,2,3 1")) || e != api.OK {
		t.Errorf("List: %v, %d", l, e)
	}
	path, potentials, e := route.Best(g)
	if !slices.Equal(path, []int{0, 1}) || !slices.Equal(potentials, []int{3, 1, 0}) || e != api.OK {
		t.Errorf("Best: %v, %v, %d", path, potentials, e)
	}
	if n, e := route.Rank(g, []int{3, 1}); n != 2 || e != api.OK {
		t.Errorf("Rank: %d, %d", n, e)
	}
	if next, e := route.Next(g, []int{2}); !slices.Equal(next, []int{3, 1}) || e != api.OK {
		t.Errorf("Next: %v, %d", next, e)
	}
	if n, e := route.Ways(g, 2); n != 0 || e != api.OK {
		t.Errorf("Ways: %d, %d", n, e)
	}
	for _, path := range lists("0 1,2,3 1") {
		if !route.Check(g, path, []int{3, 1, 0}) || route.Check(g, path, []int{3, 2, 0}) {
			t.Errorf("Check of %v", path)
		}
	}
}

// P10.1: the error of a graph comes ahead of the others, and with it there is no other result.
func TestErrorsOfGraphs(t *testing.T) {
	tooMany := slices.Repeat([]api.Arc{{To: 1}}, 6001)
	for i, c := range []struct {
		g api.Graph
		e api.Errno
	}{
		{api.Graph{}, api.ErrEmpty}, {graph(-1, ""), api.ErrEmpty}, {graph(0, "0 1 -1"), api.ErrEmpty}, {graph(math.MinInt, ""), api.ErrEmpty}, {graph(2001, "0 1 -1"), api.ErrTooLarge}, {graph(math.MaxInt, ""), api.ErrTooLarge}, {api.Graph{Nodes: 2, Arcs: tooMany}, api.ErrTooLarge},
		{graph(2, "0 2 1"), api.ErrRange}, {graph(2, "-1 1 1"), api.ErrRange}, {graph(2, "0 1 -1"), api.ErrRange}, {graph(2, "0 1 1000001"), api.ErrRange}, {graph(1, "0 0 0"), api.ErrOrder}, {graph(3, "0 2 1 2 1 1"), api.ErrOrder}, {graph(2, "0 1 1 1 1 1"), api.ErrOrder},
		{with(wide(3000, 1), api.Arc{From: 1, To: 1}), api.ErrOrder}, {with(wide(3000, 1), api.Arc{From: 0, To: 2}), api.ErrRange}, {with(chain(63, 1, 1), api.Arc{Cost: -1}), api.ErrRange},
	} {
		for _, path := range [][]int{nil, {0}, {0, 1}, {-1}} {
			for _, n := range []int{0, 1, 2000, -1, 2001, 60001, math.MaxInt, math.MinInt} {
				checkNothing(t, c.g, path, n, c.e)
			}
			if route.Check(c.g, path, nil) || route.Check(c.g, path, []int{0}) || route.Check(c.g, path, []int{1, 0}) {
				t.Errorf("row %d: Check of %v", i, path)
			}
		}
	}
}

// checkNothing checks that each function returns nothing beside an error.
func checkNothing(t *testing.T, g api.Graph, path []int, n int, want api.Errno) {
	t.Helper()
	best, potentials, e1 := route.Best(g)
	l, e2 := route.List(g, n)
	next, e3 := route.Next(g, path)
	within, e4 := route.Within(g, n)
	rank, e5 := route.Rank(g, path)
	ways, e6 := route.Ways(g, n)
	if len(best) != 0 || len(potentials) != 0 || len(l) != 0 || len(next) != 0 || len(within) != 0 || rank != 0 || ways != 0 {
		t.Errorf("%d nodes, %v, %d: %v, %v, %v, %v, %v, %d, %d", g.Nodes, path, n, best, potentials, l, next, within, rank, ways)
	}
	for i, e := range []api.Errno{e1, e2, e3, e4, e5, e6} {
		if e != want {
			t.Errorf("%d nodes, %v, %d: function %d: %d instead of %d", g.Nodes, path, n, i, e, want)
		}
	}
}

// P10.1: the other errors, in their order, with the limits on either side.
func TestErrors(t *testing.T) {
	few, many := wide(2000, 1), wide(2001, 1)
	for i, c := range []struct {
		g       api.Graph
		n       int
		l, w, v api.Errno // of List, Within and Ways
	}{
		{example(), -1, api.ErrRange, api.ErrRange, api.ErrRange}, {example(), math.MinInt, api.ErrRange, api.ErrRange, api.ErrRange}, {example(), 0, 0, 0, 0}, {example(), 2000, 0, 0, 0}, {example(), 2001, api.ErrRange, 0, 0}, {example(), 60000, api.ErrRange, 0, 0}, {example(), 60001, api.ErrRange, 0, api.ErrRange},
		{example(), math.MaxInt, api.ErrRange, 0, api.ErrRange}, {graph(2, ""), -1, api.ErrRange, api.ErrRange, api.ErrRange}, {graph(2, ""), 0, 0, 0, 0}, {graph(2, ""), 2001, api.ErrRange, 0, 0}, {graph(2, ""), 60001, api.ErrRange, 0, api.ErrRange}, {graph(1, ""), 0, 0, 0, 0}, {graph(1, ""), 2000, 0, 0, 0},
		{few, 0, 0, 0, 0}, {few, 2000, 0, 0, 0}, {few, -1, api.ErrRange, api.ErrRange, api.ErrRange}, {many, -1, api.ErrRange, api.ErrRange, api.ErrRange}, {many, 0, api.ErrTooLarge, api.ErrTooLarge, 0}, {many, 2000, api.ErrTooLarge, api.ErrTooLarge, 0}, {many, 2001, api.ErrRange, api.ErrTooLarge, 0}, {many, 60001, api.ErrRange, api.ErrTooLarge, api.ErrRange},
		{chain(62, 0, 0), 0, api.ErrTooLarge, api.ErrTooLarge, 0}, {chain(63, 0, 0), 0, api.ErrTooLarge, api.ErrTooLarge, api.ErrTooLarge}, {chain(63, 0, 0), -1, api.ErrRange, api.ErrRange, api.ErrRange}, {chain(64, 0, 0), 0, api.ErrTooLarge, api.ErrTooLarge, api.ErrTooLarge}, {chain(1999, 0, 0, 0), 60000, api.ErrRange, api.ErrTooLarge, api.ErrTooLarge},
	} {
		l, e1 := route.List(c.g, c.n)
		w, e2 := route.Within(c.g, c.n)
		v, e3 := route.Ways(c.g, c.n)
		if e1 != c.l || e2 != c.w || e3 != c.v {
			t.Errorf("row %d: %d, %d, %d", i, e1, e2, e3)
		}
		if e1 != api.OK && len(l) != 0 || e2 != api.OK && len(w) != 0 || e3 != api.OK && v != 0 {
			t.Errorf("row %d: %v, %v, %d", i, l, w, v)
		}
	}
}

// P10.1: the errors of Next and Rank.
func TestErrorsOfPaths(t *testing.T) {
	few, many := wide(2000, 1), wide(2001, 1)
	for i, c := range []struct {
		g          api.Graph
		path       string
		next, rank api.Errno
	}{
		{example(), "0 1", 0, 0}, {example(), "2", 0, 0}, {example(), "3 1", api.ErrNone, 0}, {example(), "", api.ErrInvalid, api.ErrInvalid}, {example(), "0", api.ErrInvalid, api.ErrInvalid}, {example(), "1", api.ErrInvalid, api.ErrInvalid}, {example(), "1 0", api.ErrInvalid, api.ErrInvalid}, {example(), "2 2", api.ErrInvalid, api.ErrInvalid},
		{example(), "3", api.ErrInvalid, api.ErrInvalid}, {example(), "4", api.ErrInvalid, api.ErrInvalid}, {example(), "-1", api.ErrInvalid, api.ErrInvalid}, {example(), "0 1 1", api.ErrInvalid, api.ErrInvalid}, {graph(1, ""), "", api.ErrNone, 0}, {graph(1, ""), "0", api.ErrInvalid, api.ErrInvalid}, {graph(2, ""), "", api.ErrInvalid, api.ErrInvalid}, {graph(2, ""), "0", api.ErrInvalid, api.ErrInvalid},
		{few, "0", 0, 0}, {few, "1998", 0, 0}, {few, "1999", api.ErrNone, 0}, {few, "2000", api.ErrInvalid, api.ErrInvalid}, {many, "0", api.ErrTooLarge, api.ErrTooLarge}, {many, "2000", api.ErrTooLarge, api.ErrTooLarge}, {many, "2001", api.ErrInvalid, api.ErrInvalid}, {many, "", api.ErrInvalid, api.ErrInvalid},
		{wide(1, 5), "0", api.ErrNone, 0}, {chain(11, 1, 1), "0 2 4 6 8 10 12 14 16 18 20", api.ErrTooLarge, api.ErrTooLarge}, {chain(10, 1, 1), "0 2 4 6 8 10 12 14 16 18", 0, 0}, {chain(10, 1, 1), "1 3 5 7 9 11 13 15 17 19", api.ErrNone, 0}, {with(chain(64, 1, 1), api.Arc{To: 64}), "128", api.ErrTooLarge, api.ErrTooLarge}, {ahead(chain(64, 1, 1), 0), "128", api.ErrNone, 0},
	} {
		path := numbers(c.path)
		next, e1 := route.Next(c.g, path)
		rank, e2 := route.Rank(c.g, path)
		if e1 != c.next || e2 != c.rank || e1 != api.OK && len(next) != 0 || e2 != api.OK && rank != 0 {
			t.Errorf("row %d: %v, %d, %d, %d", i, next, e1, rank, e2)
		}
	}
}

// P10.1
func TestBest(t *testing.T) {
	for i, c := range []struct {
		g                api.Graph
		path, potentials string
		e                api.Errno
	}{
		{graph(1, ""), "", "0", 0}, {graph(2, ""), "", "", api.ErrNone}, {graph(3, "0 1 5"), "", "", api.ErrNone}, {graph(3, "1 2 5"), "", "", api.ErrNone}, {graph(2, "0 1 7"), "0", "7 0", 0}, {graph(2, "0 1 0"), "0", "0 0", 0}, {graph(2, "0 1 1000000"), "0", "1000000 0", 0}, {graph(2, "0 1 7 0 1 6 0 1 6 0 1 8"), "1", "6 0", 0},
		{example(), "0 1", "3 1 0", 0}, {mixed(), "2 1 0", "6 1 3 -1 -1 1 0", 0}, {graph(4, "0 3 5 0 1 2 1 3 3 0 2 1 2 3 4"), "0", "5 3 4 0", 0}, {graph(4, "0 3 6 0 1 2 1 3 3 0 2 1 2 3 4"), "1 2", "5 3 4 0", 0}, {graph(4, "2 3 4 0 3 6 1 3 3 0 2 1 0 1 2"), "3 0", "5 3 4 0", 0},
		{graph(5, "0 1 0 1 2 0 2 3 0 3 4 0 0 4 0"), "0 1 2 3", "0 0 0 0 0", 0}, {graph(5, "0 4 0 0 1 0 1 2 0 2 3 0 3 4 0"), "0", "0 0 0 0 0", 0}, {graph(5, "0 4 1 0 1 0 1 2 0 2 3 0 3 4 0"), "1 2 3 4", "0 0 0 0 0", 0}, {graph(4, "1 3 2 0 3 9"), "1", "9 2 -1 0", 0}, {graph(4, "0 1 0 0 3 9"), "1", "9 -1 -1 0", 0},
		// An arc that is cheaper, but leads to a node behind which it becomes dearer, or from which nothing leads on.
		{graph(4, "0 1 1 1 3 9 0 2 4 2 3 4"), "2 3", "8 9 4 0", 0}, {graph(4, "0 1 0 0 2 4 2 3 4"), "1 2", "8 -1 4 0", 0}, {graph(4, "0 1 9 1 2 0 0 3 8"), "2", "8 -1 -1 0", 0},
		{ahead(chain(3, 1, 1), 5), "6", "5 3 2 1 0", 0}, {behind(chain(3, 1, 1), 5), "6", "5 -1 -1 -1 0", 0},
	} {
		kept := cloned(c.g)
		path, potentials, e := route.Best(c.g)
		if !slices.Equal(path, numbers(c.path)) || !slices.Equal(potentials, numbers(c.potentials)) || e != c.e {
			t.Errorf("row %d: %v, %v, %d", i, path, potentials, e)
		}
		if route.Check(c.g, path, potentials) != (e == api.OK) {
			t.Errorf("row %d: Check", i)
		}
		if !equal(c.g, kept) {
			t.Errorf("row %d: the graph was changed", i)
		}
	}
}

// P10.1: there is a best path however many paths there are.
func TestBestOfMany(t *testing.T) {
	g := chain(1999, api.MaxSum, api.MaxSum, api.MaxSum)
	path, potentials, e := route.Best(g)
	if e != api.OK || len(path) != 1999 || len(potentials) != 2000 || !route.Check(g, path, potentials) {
		t.Fatalf("%d arcs, %d potentials, %d", len(path), len(potentials), e)
	}
	for i, arc := range path {
		if arc != 3*i || potentials[i] != (1999-i)*api.MaxSum {
			t.Fatalf("%d: %d, %d", i, arc, potentials[i])
		}
	}
	slices.Reverse(g.Arcs)
	if path, potentials, e := route.Best(g); e != api.OK || path[0] != 3*1998 || path[1998] != 0 || !route.Check(g, path, potentials) {
		t.Errorf("backwards: %d", e)
	}
}

// P10.1: whichever potentials prove something are accepted.
func TestCheck(t *testing.T) {
	slack := graph(4, "0 3 5 0 1 2 1 3 9 0 2 3 1 2 0")
	apart := graph(4, "0 3 5 1 3 2 0 2 1")
	for i, c := range []struct {
		g                api.Graph
		path, potentials string
		want             bool
	}{
		{graph(1, ""), "", "0", true}, {graph(1, ""), "", "1", false}, {graph(1, ""), "", "-1", false}, {graph(1, ""), "", "", false}, {graph(1, ""), "", "0 0", false}, {graph(1, ""), "0", "0", false}, {graph(2, ""), "", "0 0", false}, {graph(2, ""), "", "-1 0", false}, {graph(2, ""), "0", "-1 0", false},
		{wide(2, 5), "0", "5 0", true}, {wide(2, 5), "1", "5 0", true}, {wide(2, 5), "2", "5 0", false}, {wide(2, 5), "", "5 0", false}, {wide(2, 5), "0", "4 0", false}, {wide(2, 5), "0", "6 0", false}, {wide(2, 5), "0", "5 1", false}, {wide(2, 5), "0", "6 1", false}, {wide(2, 5), "0", "4 -1", false}, {wide(2, 5), "0", "5 -1", false},
		{wide(2, 5), "0", "-1 0", false}, {wide(2, 5), "0", "5", false}, {wide(2, 5), "0", "5 0 0", false}, {wide(2, 5), "0", "5 0 -1", false}, {wide(2, 5), "0", "", false}, {graph(2, "0 1 5 0 1 4"), "1", "4 0", true}, {graph(2, "0 1 5 0 1 4"), "0", "5 0", false}, {graph(2, "0 1 5 0 1 4"), "0", "4 0", false},
		{example(), "0 1", "3 1 0", true}, {example(), "2", "3 1 0", true}, {example(), "3 1", "3 1 0", true}, {example(), "0 1", "3 2 0", false}, {example(), "0 1", "3 0 0", false}, {example(), "0 1", "3 -1 0", false}, {example(), "0 3", "3 1 0", false}, {example(), "1", "3 1 0", false}, {example(), "0 1", "3 1 0 0", false},
		{example(), "0 1", "3 1", false}, {example(), "0 1", "2 1 0", false}, {example(), "0 1", "4 1 0", false}, {example(), "2", "3 -2 0", false},
		// Arcs between the other nodes leave room: 1 can have from 3 to 9, less if 2 has less, and 2 nothing but -1, or anything if it has no arc.
		{slack, "0", "5 3 -1 0", true}, {slack, "0", "5 9 -1 0", true}, {slack, "0", "5 10 -1 0", false}, {slack, "0", "5 2 -1 0", false}, {slack, "0", "5 5 5 0", true}, {slack, "0", "5 6 5 0", false}, {slack, "0", "5 3 3 0", true}, {slack, "0", "5 3 2 0", false}, {slack, "0", "5 9 1099511627776 0", true}, {slack, "0", "5 9 1099511627777 0", false},
		{slack, "0", "5 -1 -1 0", false}, {slack, "0", "5 -1 5 0", false}, {slack, "0", "5 3 -2 0", false}, {slack, "0", "5 3 -9223372036854775808 0", false}, {slack, "0", "5 3 9223372036854775807 0", false}, {slack, "1 2", "11 9 -1 0", false}, {slack, "1 2", "5 9 -1 0", false},
		{apart, "0", "5 2 -1 0", true}, {apart, "0", "5 0 -1 0", true}, {apart, "0", "5 2 4 0", true}, {apart, "0", "5 2 3 0", false}, {apart, "0", "5 3 -1 0", false}, {apart, "0", "5 -1 -1 0", false}, {apart, "0", "-1 2 -1 0", false}, {apart, "0", "5 2 1099511627776 0", true}, {apart, "0", "5 2 1099511627777 0", false}, {apart, "0", "5 9223372036854775807 -1 0", false},
		{mixed(), "2 1 0", "6 1 3 -1 -1 1 0", true}, {mixed(), "2 1 0", "6 0 3 7 -1 1 0", true}, {mixed(), "2 1 0", "6 0 3 -1 1 1 0", true}, {mixed(), "2 1 0", "6 -1 3 -1 -1 1 0", false}, {mixed(), "2 1 0", "6 1 3 -1 0 1 0", false}, {mixed(), "7 0", "9 1 3 -1 -1 1 0", false}, {mixed(), "7 0", "6 1 3 -1 -1 1 0", false}, {mixed(), "2 1 0", "6 1 2 -1 -1 1 0", false}, {mixed(), "2 1 0", "6 1 3 -1 -1 2 0", false},
	} {
		kept, path, potentials := cloned(c.g), numbers(c.path), numbers(c.potentials)
		if got := route.Check(c.g, path, potentials); got != c.want {
			t.Errorf("row %d: %v", i, got)
		}
		if !equal(c.g, kept) || !slices.Equal(path, numbers(c.path)) || !slices.Equal(potentials, numbers(c.potentials)) {
			t.Errorf("row %d: an argument was changed", i)
		}
	}
}

// P10.1: all that stands in an order.
func TestOrder(t *testing.T) {
	for i, c := range []struct {
		g     api.Graph
		want  string // the paths in order, or - if the empty list is the only one
		costs string
	}{
		{graph(1, ""), "-", "0"}, {graph(2, ""), "", ""}, {graph(2, "0 1 5"), "0", "5"}, {graph(2, "0 1 5 0 1 4 0 1 5 0 1 4"), "1,3,0,2", "4 4 5 5"}, {example(), "0 1,2,3 1", "3 3 3"}, {mixed(), "2 1 0,2 10,5 9,7 0,8,2 6 0,5 3 1 0,5 3 10,5 3 6 0", "6 9 9 9 9 11 15 18 20"},
		{chain(2, 1, 2), "0 2,0 3,1 2,1 3", "2 3 3 4"}, {chain(2, 2, 1), "1 3,0 3,1 2,0 2", "2 3 3 4"}, {graph(4, "0 1 0 0 2 0 1 3 9 2 3 1 0 3 5"), "1 3,4,0 2", "1 5 9"}, {graph(3, "1 2 1000000 0 1 1000000 0 2 1000000"), "2,1 0", "1000000 2000000"},
		{graph(12, "0 11 0 0 1 0 1 11 0 0 2 0 2 11 0 0 3 0 3 11 0 0 4 0 4 11 0 0 5 0 5 11 0"), "0,1 2,3 4,5 6,7 8,9 10", "0 0 0 0 0 0"}, {ahead(chain(64, 1, 1), 7), "128", "7"}, {behind(chain(64, 1, 1), 7), "128", "7"}, {behind(chain(1500, 60000, 1, 30000), 60000), "4500", "60000"},
	} {
		want := [][]int{nil}
		if c.want != "-" {
			want = lists(c.want)
		}
		kept := cloned(c.g)
		checkOrder(t, c.g, want, numbers(c.costs))
		if !equal(c.g, kept) {
			t.Errorf("row %d: the graph was changed", i)
		}
	}
}

// checkOrder compares all functions with the paths of a graph, which are given in order with their costs.
func checkOrder(t *testing.T, g api.Graph, want [][]int, costs []int) {
	t.Helper()
	for _, k := range append(upwards(len(want)+2), 2000) {
		if l, e := route.List(g, k); !equalLists(l, want[:min(k, len(want))]) || e != api.OK {
			t.Fatalf("%v: List of %d: %v, %d", g, k, l, e)
		}
	}
	for _, cost := range append(around(costs), 0, 60000, math.MaxInt) {
		n, _ := slices.BinarySearch(costs, cost+1)
		if cost == math.MaxInt {
			n = len(want)
		}
		if l, e := route.Within(g, cost); !equalLists(l, want[:n]) || e != api.OK {
			t.Fatalf("%v: Within %d: %v, %d", g, cost, l, e)
		}
		if ways, e := route.Ways(g, cost); cost <= 60000 && (ways != int64(n) || e != api.OK) {
			t.Fatalf("%v: Ways of %d: %d, %d", g, cost, ways, e)
		}
	}
	for i, path := range want {
		given := slices.Clone(path)
		if rank, e := route.Rank(g, path); rank != i || e != api.OK {
			t.Fatalf("%v: Rank of %v: %d, %d", g, path, rank, e)
		}
		next, e := route.Next(g, path)
		if i+1 < len(want) && (!slices.Equal(next, want[i+1]) || e != api.OK) || i+1 == len(want) && (len(next) != 0 || e != api.ErrNone) {
			t.Fatalf("%v: Next of %v: %v, %d", g, path, next, e)
		}
		if !slices.Equal(path, given) {
			t.Fatalf("%v was changed to %v", given, path)
		}
	}
}

// around returns numbers and the ones just below and above them, without negative ones.
func around(l []int) []int {
	var all []int
	for _, n := range slices.Compact(slices.Clone(l)) {
		all = append(all, max(n-1, 0), n, n+1)
	}
	return all
}

// P10.1: there are at most 2^62 paths within a cost, whatever the numbers of dearer paths are, and of ways that are no paths.
func TestWays(t *testing.T) {
	const most = 1 << 62
	for i, c := range []struct {
		g    api.Graph
		cost int
		want int64 // or -1 for an error
	}{
		{graph(1, ""), 0, 1}, {graph(1, ""), 60000, 1}, {graph(2, ""), 60000, 0}, {wide(6000, 0), 0, 6000}, {wide(6000, 60000), 60000, 6000}, {wide(6000, 60000), 59999, 0}, {wide(6000, 60001), 60000, 0}, {wide(5, 1000000), 60000, 0}, {chain(2, 30000), 60000, 1}, {chain(2, 30000), 59999, 0}, {chain(3, 30000, 0), 60000, 7},
		{chain(62, 0, 0), 0, most}, {chain(62, 0, 0), 60000, most}, {chain(62, 1, 1), 61, 0}, {chain(62, 1, 1), 62, most}, {chain(63, 0, 0), 0, -1}, {chain(63, 1, 1), 62, 0}, {chain(63, 1, 1), 63, -1}, {with(chain(62, 0, 0), jump(chain(62), 0)), 60000, -1}, {with(chain(62, 0, 0), jump(chain(62), 9)), 8, most}, {with(chain(62, 0, 0), jump(chain(62), 9)), 9, -1},
		// As many of the subsets of 63 things have at most 31 as more.
		{chain(63, 0, 1), 31, most}, {chain(63, 1, 0), 31, most}, {chain(63, 0, 1), 32, -1}, {chain(63, 0, 1), 0, 1}, {chain(63, 0, 1), 1, 64}, {chain(63, 0, 1000), 31999, most}, {chain(63, 0, 1000), 32000, -1}, {chain(63, 0, 1000000), 60000, 1}, {chain(63, 0, 1900), 31 * 1900, most}, {chain(63, 0, 1900), 31*1900 - 1, 1<<62 - 916312070471295267},
		{chain(1999, 0, 1), 1, 2000}, {chain(1999, 0, 1), 2, 1999001}, {chain(1999, 0, 30000), 60000, 1999001}, {chain(1999, 0, 1, 1), 1, 3999}, {chain(1999, 30, 31), 59969, 0}, {chain(1999, 30, 31), 59970, 1}, {chain(1999, 30, 31), 59972, 1999001}, {chain(1999, 30, 31), 60000, -1}, {chain(1999, 0, 1, 2), 60000, -1},
		// As many ways that are not reached, that lead nowhere, or that are too dear behind or ahead.
		{ahead(chain(64, 0, 0), 0), 60000, 1}, {behind(chain(64, 0, 0), 0), 60000, 1}, {ahead(behind(chain(1900, 0, 0), 3), 2), 60000, 1}, {ahead(chain(70, 0, 0), 5), 4, 0}, {chain(0), 7, 1}, {api.Graph{Nodes: 80, Arcs: chain(70, 0, 0).Arcs}, 60000, 0},
		{with(api.Graph{Nodes: 72, Arcs: chain(70, 0, 0).Arcs}, api.Arc{From: 70, To: 71, Cost: 5}, api.Arc{To: 71, Cost: 1}), 4, 1}, {with(api.Graph{Nodes: 72, Arcs: chain(70, 0, 0).Arcs}, api.Arc{From: 70, To: 71, Cost: 5}, api.Arc{To: 71, Cost: 1}), 5, -1},
		{with(ahead(chain(70, 0, 0), 1), api.Arc{To: 1, Cost: 5}), 4, 1}, {with(ahead(chain(70, 0, 0), 1), api.Arc{To: 1, Cost: 5}), 5, -1},
	} {
		kept := cloned(c.g)
		n, e := route.Ways(c.g, c.cost)
		if c.want < 0 && (n != 0 || e != api.ErrTooLarge) || c.want >= 0 && (n != c.want || e != api.OK) {
			t.Errorf("row %d: %d, %d", i, n, e)
		}
		if !equal(c.g, kept) {
			t.Errorf("row %d: the graph was changed", i)
		}
	}
}

// P10.1: 2000 paths, with as few and as many arcs as possible.
func TestSizes(t *testing.T) {
	long := with(chain(1999, 1), slices.Repeat([]api.Arc{{From: 1998, To: 1999, Cost: 1}}, 1999)...)
	for i, g := range []api.Graph{wide(2000, 7), long} {
		path, potentials, e := route.Best(g)
		l, e1 := route.List(g, 2000)
		if e != api.OK || e1 != api.OK || len(l) != 2000 || !slices.Equal(l[0], path) || !route.Check(g, path, potentials) {
			t.Fatalf("row %d: %d, %d, %d paths", i, e, e1, len(l))
		}
		for k := 0; k < 2000; k += 333 {
			rank, e := route.Rank(g, l[k])
			next, f := route.Next(g, l[k])
			if rank != k || e != api.OK || f != api.OK || !slices.Equal(next, l[k+1]) {
				t.Fatalf("row %d, %d: %d, %d, %d", i, k, rank, e, f)
			}
		}
		if rank, e := route.Rank(g, l[1999]); rank != 1999 || e != api.OK {
			t.Errorf("row %d: %d, %d", i, rank, e)
		}
		if next, e := route.Next(g, l[1999]); len(next) != 0 || e != api.ErrNone {
			t.Errorf("row %d: %v, %d", i, next, e)
		}
	}
}

// Results share no memory with the arguments, with one another, or with those of other calls.
func TestResultsAreTheirOwn(t *testing.T) {
	g, all := example(), "0 1,2,3 1"
	given := []int{2}
	for range 2 {
		path, potentials, _ := route.Best(g)
		l, _ := route.List(g, 2)
		within, _ := route.Within(g, 3)
		next, _ := route.Next(g, given)
		if !slices.Equal(path, []int{0, 1}) || !slices.Equal(potentials, []int{3, 1, 0}) || !equalLists(l, lists(all)[:2]) || !equalLists(within, lists(all)) || !slices.Equal(next, []int{3, 1}) {
			t.Fatalf("%v, %v, %v, %v, %v", path, potentials, l, within, next)
		}
		for i := range within {
			within[i] = append(within[i], 9, 9)
			within[i][0] = 9
			if later := within[i+1:]; !equalLists(later, lists(all)[i+1:]) {
				t.Fatalf("path %d shares memory: %v", i, later)
			}
		}
		path[0], potentials[0], l[0][0], next[0] = 9, 9, 9, 9
		if !equal(g, example()) || !slices.Equal(given, []int{2}) || !slices.Equal(l[1], []int{2}) {
			t.Fatalf("%v, %v, %v", g, given, l)
		}
	}
}

// Equal arguments have equal results, whether their lists are nil or empty.
func TestNilAndEmpty(t *testing.T) {
	none, empty := api.Graph{Nodes: 1}, api.Graph{Nodes: 1, Arcs: []api.Arc{}}
	path, potentials, e1 := route.Best(none)
	other, others, e2 := route.Best(empty)
	if !reflect.DeepEqual(path, other) || !slices.Equal(potentials, others) || e1 != api.OK || e2 != api.OK {
		t.Errorf("%v, %v, %d, %d", path, other, e1, e2)
	}
	for _, g := range []api.Graph{none, empty} {
		for _, path := range [][]int{nil, {}} {
			rank, e1 := route.Rank(g, path)
			_, e2 := route.Next(g, path)
			if !route.Check(g, path, []int{0}) || route.Check(g, path, nil) || route.Check(g, path, []int{}) || rank != 0 || e1 != api.OK || e2 != api.ErrNone {
				t.Errorf("%v, %v: %d, %d, %d", g, path, rank, e1, e2)
			}
		}
	}
}
