package dag_test

import (
	"math"
	"reflect"
	"slices"
	"strconv"
	"strings"
	"testing"

	"anceps/api"
	"anceps/dag"
)

// numbers returns the numbers of a text, with spaces between them.
func numbers(s string) []int {
	var l []int
	for _, f := range strings.Fields(s) {
		n, e := strconv.Atoi(f)
		if e != nil {
			panic(e)
		}
		l = append(l, n)
	}
	return l
}

// lists returns the lists of numbers of a text, with commas between them.
func lists(s string) [][]int {
	if s == "" {
		return nil
	}
	var l [][]int
	for _, part := range strings.Split(s, ",") {
		l = append(l, numbers(part))
	}
	return l
}

// graph returns a graph; each arc is written with three numbers: From, To, Cost.
func graph(nodes int, arcs string) api.Graph {
	g := api.Graph{Nodes: nodes}
	for l := range slices.Chunk(numbers(arcs), 3) {
		g.Arcs = append(g.Arcs, api.Arc{From: l[0], To: l[1], Cost: l[2]})
	}
	return g
}

// chain returns a graph in which so many arcs lead from each node to the next one, with the cost 1.
func chain(widths ...int) api.Graph {
	g := api.Graph{Nodes: len(widths) + 1}
	for from, width := range widths {
		for range width {
			g.Arcs = append(g.Arcs, api.Arc{From: from, To: from + 1, Cost: 1})
		}
	}
	return g
}

// doubling returns a graph with 2^n paths.
func doubling(n int) api.Graph {
	return chain(slices.Repeat([]int{2}, n)...)
}

// with returns a graph with more arcs behind its own.
func with(g api.Graph, arcs ...api.Arc) api.Graph {
	g.Arcs = slices.Concat(g.Arcs, arcs)
	return g
}

// jump is an arc from the start to the end.
func jump(g api.Graph) api.Arc {
	return api.Arc{To: g.Nodes - 1}
}

// behind returns a graph in which the end is a new node to which only an arc from the start leads.
func behind(g api.Graph) api.Graph {
	g.Nodes++
	return with(g, jump(g))
}

// ahead returns a graph in which the start is a new node from which only an arc to the end leads.
func ahead(g api.Graph) api.Graph {
	h := api.Graph{Nodes: g.Nodes + 1}
	for _, arc := range g.Arcs {
		h.Arcs = append(h.Arcs, api.Arc{From: arc.From + 1, To: arc.To + 1, Cost: arc.Cost})
	}
	return with(h, jump(h))
}

func cloned(g api.Graph) api.Graph {
	g.Arcs = slices.Clone(g.Arcs)
	return g
}

func equal(g, h api.Graph) bool {
	return g.Nodes == h.Nodes && slices.Equal(g.Arcs, h.Arcs)
}

func equalLists(a, b [][]int) bool {
	return slices.EqualFunc(a, b, slices.Equal)
}

func isZero(g api.Graph) bool {
	return equal(g, api.Graph{})
}

// The graphs of the chapter's examples.
func example() api.Graph { return graph(4, "0 1 1 0 2 2 1 3 3 2 3 4 0 3 9") }
func broken() api.Graph  { return graph(4, "0 1 1 0 2 2") }

// mixed has nodes that are not reached (1), that lead nowhere (4) and both (3), arcs in any order, and one twice.
func mixed() api.Graph {
	return graph(7, "5 6 1 2 5 2 0 2 3 1 2 4 0 4 5 1 3 6 2 5 7 0 5 8")
}

// P9.1: the examples of the chapter.
func TestExamples(t *testing.T) {
	g := example()
	paths, e := dag.Paths(g)
	if !equalLists(paths, lists("0 2, 1 3, 4")) || e != api.OK {
		t.Errorf("Paths: %v, %d", paths, e)
	}
	for i, want := range []int{4, 6, 9} {
		if cost, e := dag.Cost(g, paths[i]); cost != want || e != api.OK {
			t.Errorf("Cost %d: %d, %d", i, cost, e)
		}
	}
	if n, e := dag.Count(g); n != 3 || e != api.OK {
		t.Errorf("Count: %d, %d", n, e)
	}
	if none, e := dag.Paths(broken()); len(none) != 0 || e != api.OK {
		t.Errorf("Paths: %v, %d", none, e)
	}
	if cut, e := dag.Cut(broken()); !slices.Equal(cut, []int{0, 1, 2}) || e != api.OK {
		t.Errorf("Cut: %v, %d", cut, e)
	}
}

// errors returns graphs with their errors.
func errors() []struct {
	g api.Graph
	e api.Errno
} {
	type row = struct {
		g api.Graph
		e api.Errno
	}
	tooMany := slices.Repeat([]api.Arc{{To: 1}}, 6001)
	l := []row{
		{graph(1, ""), 0}, {api.Graph{Nodes: 1, Arcs: []api.Arc{}}, 0}, {graph(2, ""), 0}, {graph(2000, ""), 0}, {graph(2000, "0 1999 0 1998 1999 1000000"), 0}, {graph(2, "0 1 0 0 1 0"), 0}, {graph(3, "1 2 1000000 0 1 0"), 0},
		{api.Graph{Nodes: 2, Arcs: tooMany[:6000]}, 0}, {api.Graph{Nodes: 2000, Arcs: tooMany[:6000]}, 0}, {example(), 0}, {broken(), 0}, {mixed(), 0},
		{api.Graph{}, api.ErrEmpty}, {graph(-1, ""), api.ErrEmpty}, {graph(math.MinInt, ""), api.ErrEmpty}, {api.Graph{Nodes: 0, Arcs: tooMany}, api.ErrEmpty}, {graph(0, "5 5 -1"), api.ErrEmpty},
		{graph(2001, ""), api.ErrTooLarge}, {graph(math.MaxInt, "0 1 1"), api.ErrTooLarge}, {graph(2001, "5 5 -1"), api.ErrTooLarge}, {api.Graph{Nodes: 2, Arcs: tooMany}, api.ErrTooLarge}, {api.Graph{Nodes: 1, Arcs: tooMany}, api.ErrTooLarge},
		{graph(1, "0 1 0"), api.ErrRange}, {graph(1, "0 0 0"), api.ErrOrder}, {graph(2, "0 2 0"), api.ErrRange}, {graph(2, "-1 1 0"), api.ErrRange}, {graph(2, "2 1 0"), api.ErrRange}, {graph(2, "0 -1 0"), api.ErrRange}, {graph(2, "2 2 0"), api.ErrRange}, {graph(2, "-1 -2 0"), api.ErrRange},
		{graph(2, "0 1 -1"), api.ErrRange}, {graph(2, "0 1 1000001"), api.ErrRange}, {graph(2, "1 0 0"), api.ErrOrder}, {graph(2, "1 1 0"), api.ErrOrder}, {graph(2, "0 0 0"), api.ErrOrder}, {graph(3, "2 1 0"), api.ErrOrder}, {graph(2000, "1999 0 0"), api.ErrOrder},
		// An arc with both errors, and two arcs with an error each.
		{graph(2, "1 0 -1"), api.ErrRange}, {graph(2, "1 1 1000001"), api.ErrRange}, {graph(2, "0 1 0 1 0 0 0 1 -1"), api.ErrOrder}, {graph(2, "0 1 0 0 1 -1 1 0 0"), api.ErrRange}, {graph(3, "1 1 0 0 3 0"), api.ErrOrder}, {graph(3, "0 3 0 1 1 0"), api.ErrRange},
		{with(api.Graph{Nodes: 2, Arcs: tooMany[:5999]}, api.Arc{From: 1, To: 1}), api.ErrOrder}, {with(api.Graph{Nodes: 2, Arcs: tooMany[:5999]}, api.Arc{To: 2}), api.ErrRange},
	}
	for _, n := range []int{math.MaxInt, math.MinInt, 1 << 32} {
		for _, arc := range []api.Arc{{From: n, To: 1}, {From: 0, To: n}, {From: 0, To: 1, Cost: n}} {
			l = append(l, row{api.Graph{Nodes: 2, Arcs: []api.Arc{arc}}, api.ErrRange})
		}
	}
	return l
}

// P9.1: the error of a graph comes ahead of the others, and with it there is no other result.
func TestErrorsOfGraphs(t *testing.T) {
	for i, c := range errors() {
		if e := dag.Valid(c.g); e != c.e {
			t.Errorf("row %d: %d", i, e)
		}
		if c.e == api.OK {
			continue
		}
		for _, l := range [][]int{nil, {0}, {0, 0}, {-1}, {0, 1}} {
			cost, e := dag.Cost(c.g, l)
			if dag.Check(c.g, l) || dag.CheckCut(c.g, l) || cost != 0 || e != c.e {
				t.Errorf("row %d, %v: %d, %d", i, l, cost, e)
			}
		}
		n, e1 := dag.Count(c.g)
		paths, e2 := dag.Paths(c.g)
		cut, e3 := dag.Cut(c.g)
		trimmed, former, e4 := dag.Trim(c.g)
		reversed, e5 := dag.Reverse(c.g)
		if n != 0 || len(paths) != 0 || len(cut) != 0 || !isZero(trimmed) || len(former) != 0 || !isZero(reversed) {
			t.Errorf("row %d: %d, %v, %v, %v, %v, %v", i, n, paths, cut, trimmed, former, reversed)
		}
		for k, e := range []api.Errno{e1, e2, e3, e4, e5} {
			if e != c.e {
				t.Errorf("row %d, function %d: %d", i, k, e)
			}
		}
	}
}

// P9.1
func TestCost(t *testing.T) {
	rich := api.Graph{Nodes: 2000}
	for from := range 1999 {
		rich.Arcs = append(rich.Arcs, api.Arc{From: from, To: from + 1, Cost: api.MaxSum})
	}
	all := make([]int, 1999)
	for i := range all {
		all[i] = i
	}
	for i, c := range []struct {
		g    api.Graph
		path []int
		cost int
		is   bool
	}{
		{graph(1, ""), nil, 0, true}, {graph(1, ""), []int{}, 0, true}, {graph(1, ""), []int{0}, 0, false}, {graph(1, ""), []int{-1}, 0, false}, {graph(2, ""), nil, 0, false}, {graph(2, "0 1 5"), nil, 0, false}, {graph(2, "0 1 5"), []int{0}, 5, true},
		{graph(2, "0 1 5 0 1 6"), []int{1}, 6, true}, {graph(2, "0 1 5 0 1 6"), []int{0, 1}, 0, false}, {graph(2, "0 1 5 0 1 6"), []int{0, 0}, 0, false}, {graph(2, "0 1 5 0 1 6"), []int{2}, 0, false}, {graph(2, "0 1 5 0 1 6"), []int{-1}, 0, false},
		{example(), []int{0, 2}, 4, true}, {example(), []int{1, 3}, 6, true}, {example(), []int{4}, 9, true}, {example(), []int{0}, 0, false}, {example(), []int{2}, 0, false}, {example(), []int{2, 0}, 0, false}, {example(), []int{0, 3}, 0, false}, {example(), []int{1, 2}, 0, false},
		{example(), []int{4, 4}, 0, false}, {example(), []int{0, 2, 4}, 0, false}, {example(), []int{0, 0, 2}, 0, false}, {example(), []int{0, 2, 5}, 0, false}, {example(), []int{0, 2, -1}, 0, false}, {example(), []int{math.MaxInt}, 0, false}, {example(), []int{math.MinInt, 2}, 0, false}, {example(), nil, 0, false},
		{mixed(), []int{2, 6, 0}, 11, true}, {mixed(), []int{2, 1, 0}, 6, true}, {mixed(), []int{7, 0}, 9, true}, {mixed(), []int{3, 1, 0}, 0, false}, {mixed(), []int{1, 0}, 0, false}, {mixed(), []int{2, 6}, 0, false},
		{rich, all, 1999 * api.MaxSum, true}, {rich, all[:1998], 0, false}, {rich, all[1:], 0, false}, {rich, slices.Repeat(all, 1000), 0, false}, {rich, make([]int, 1<<20), 0, false}, {graph(2, "0 1 1000000"), []int{0}, api.MaxSum, true},
	} {
		kept, list := cloned(c.g), slices.Clone(c.path)
		want := api.OK
		if !c.is {
			want = api.ErrInvalid
		}
		if cost, e := dag.Cost(c.g, c.path); cost != c.cost || e != want {
			t.Errorf("row %d: %d, %d", i, cost, e)
		}
		if is := dag.Check(c.g, c.path); is != c.is {
			t.Errorf("row %d: %v", i, is)
		}
		if !equal(c.g, kept) || !slices.Equal(c.path, list) {
			t.Errorf("row %d: an argument was changed", i)
		}
	}
}

// P9.1: there are at most 2^62 paths, whatever the numbers of ways are that are no paths.
func TestCount(t *testing.T) {
	for i, c := range []struct {
		g    api.Graph
		want int64 // or -1 for an error
	}{
		{graph(1, ""), 1}, {graph(2, ""), 0}, {graph(2, "0 1 0"), 1}, {graph(2, "0 1 0 0 1 0"), 2}, {graph(3, "0 1 0"), 0}, {graph(3, "1 2 0"), 0}, {graph(2000, ""), 0}, {example(), 3}, {broken(), 0}, {mixed(), 3}, {chain(6000), 6000}, {chain(0), 0}, {chain(3, 0, 5), 0}, {chain(3, 4, 5), 60},
		{doubling(10), 1 << 10}, {doubling(31), 1 << 31}, {doubling(32), 1 << 32}, {doubling(61), 1 << 61}, {doubling(62), 1 << 62}, {doubling(63), -1}, {doubling(64), -1}, {doubling(65), -1}, {doubling(128), -1}, {doubling(1999), -1},
		{with(doubling(61), jump(doubling(61))), 1<<61 + 1}, {with(doubling(62), jump(doubling(62))), -1}, {chain(slices.Repeat([]int{3}, 39)...), 4052555153018976267}, {chain(slices.Repeat([]int{3}, 40)...), -1}, {chain(slices.Repeat([]int{3}, 1999)...), -1}, {chain(append(slices.Repeat([]int{2}, 61), 3)...), -1},
		// As many ways that are not reached, or that lead nowhere.
		{ahead(doubling(1900)), 1}, {behind(doubling(1900)), 1}, {ahead(behind(doubling(1900))), 1}, {ahead(doubling(62)), 1}, {behind(doubling(62)), 1}, {ahead(doubling(63)), 1}, {behind(doubling(63)), 1}, {ahead(doubling(64)), 1}, {behind(doubling(64)), 1}, {ahead(doubling(65)), 1},
		{chain(slices.Concat(slices.Repeat([]int{2}, 70), []int{0})...), 0}, {chain(slices.Concat([]int{0}, slices.Repeat([]int{2}, 70))...), 0}, {chain(slices.Concat(slices.Repeat([]int{2}, 70), []int{0}, slices.Repeat([]int{2}, 70))...), 0},
	} {
		kept := cloned(c.g)
		n, e := dag.Count(c.g)
		if c.want < 0 && (n != 0 || e != api.ErrTooLarge) || c.want >= 0 && (n != c.want || e != api.OK) {
			t.Errorf("row %d: %d, %d", i, n, e)
		}
		if !equal(c.g, kept) {
			t.Errorf("row %d: the graph was changed", i)
		}
	}
}

// P9.1
func TestPaths(t *testing.T) {
	for i, c := range []struct {
		g    api.Graph
		want [][]int
	}{
		{graph(1, ""), [][]int{nil}}, {graph(2, ""), nil}, {graph(3, "0 1 1"), nil}, {graph(3, "1 2 1"), nil}, {graph(3, "0 1 1 1 2 1"), lists("0 1")}, {graph(3, "1 2 1 0 1 1"), lists("1 0")}, {graph(2, "0 1 3 0 1 2 0 1 1"), lists("0,1,2")}, {broken(), nil},
		{graph(4, "0 3 0 2 3 0 1 3 0 1 2 0 0 2 0 0 1 0"), lists("0,4 1,5 2,5 3 1")}, {mixed(), lists("2 1 0, 2 6 0, 7 0")}, {chain(2, 3), lists("0 2,0 3,0 4,1 2,1 3,1 4")}, {graph(3, "0 1 0 1 2 1 0 2 1 0 1 2"), lists("0 1,2,3 1")},
		{graph(12, "0 11 0 0 1 0 1 11 0 0 2 0 2 11 0 0 3 0 3 11 0 0 4 0 4 11 0 0 5 0 5 11 0 0 6 0 6 11 0"), lists("0,1 2,3 4,5 6,7 8,9 10,11 12")},
		{ahead(doubling(900)), [][]int{{1800}}}, {behind(doubling(900)), [][]int{{1800}}}, {ahead(behind(doubling(900))), [][]int{{1801}}},
	} {
		kept := cloned(c.g)
		if paths, e := dag.Paths(c.g); !equalLists(paths, c.want) || e != api.OK {
			t.Errorf("row %d: %v, %d", i, paths, e)
		}
		if !equal(c.g, kept) {
			t.Errorf("row %d: the graph was changed", i)
		}
	}
}

// P9.1: there are at most 2000 paths, of up to 1999 arcs.
func TestPathsSizes(t *testing.T) {
	ones := slices.Repeat([]int{1}, 1990)
	for i, c := range []struct {
		g         api.Graph
		want, len int // the number of paths, or -1 for an error, and their length
	}{
		{chain(2000), 2000, 1}, {chain(2001), -1, 0}, {chain(6000), -1, 0}, {chain(slices.Concat(ones, []int{2, 2, 2, 2, 5, 5, 5})...), 2000, 1997}, {chain(slices.Concat([]int{2, 2, 2, 2, 5, 5, 5}, ones)...), 2000, 1997}, {chain(3, 23, 29), -1, 0}, {chain(43, 46), 1978, 2}, {chain(1999), 1999, 1},
		{doubling(10), 1024, 10}, {doubling(11), -1, 0}, {doubling(62), -1, 0}, {doubling(63), -1, 0}, {doubling(64), -1, 0}, {doubling(1999), -1, 0}, {chain(slices.Repeat([]int{1}, 1999)...), 1, 1999}, {with(chain(2000), jump(chain(2000))), -1, 0},
	} {
		paths, e := dag.Paths(c.g)
		if c.want < 0 {
			if len(paths) != 0 || e != api.ErrTooLarge {
				t.Errorf("row %d: %d paths, %d", i, len(paths), e)
			}
			continue
		}
		if len(paths) != c.want || e != api.OK {
			t.Errorf("row %d: %d paths, %d", i, len(paths), e)
		}
		for k, path := range paths {
			if len(path) != c.len || !dag.Check(c.g, path) || k > 0 && slices.Compare(paths[k-1], path) >= 0 {
				t.Fatalf("row %d: path %d is %v", i, k, path)
			}
		}
	}
}

// P9.1
func TestCut(t *testing.T) {
	for i, c := range []struct {
		g    api.Graph
		want []int
		e    api.Errno
	}{
		{graph(1, ""), nil, api.ErrSome}, {graph(2, ""), []int{0}, 0}, {graph(2, "0 1 0"), nil, api.ErrSome}, {graph(3, "1 2 0"), []int{0}, 0}, {graph(3, "0 1 0"), []int{0, 1}, 0}, {graph(3, "0 2 0"), nil, api.ErrSome}, {broken(), []int{0, 1, 2}, 0}, {example(), nil, api.ErrSome}, {mixed(), nil, api.ErrSome},
		{graph(6, "3 4 0 1 3 0 0 3 0 2 5 0 1 5 0"), []int{0, 3, 4}, 0}, {graph(6, "0 4 0 4 5 0"), nil, api.ErrSome}, {graph(6, "0 4 0 3 5 0 1 4 0 1 2 0"), []int{0, 4}, 0}, {graph(5, "2 3 0 1 2 0 0 1 0"), []int{0, 1, 2, 3}, 0}, {graph(2000, ""), []int{0}, 0},
		{behind(doubling(64)), nil, api.ErrSome}, {ahead(doubling(64)), nil, api.ErrSome}, {doubling(64), nil, api.ErrSome}, {doubling(1999), nil, api.ErrSome}, {chain(3, 2, 0, 4), []int{0, 1, 2}, 0}, {chain(slices.Concat(slices.Repeat([]int{3}, 1900), []int{0})...), upwards(1901), 0},
	} {
		kept := cloned(c.g)
		cut, e := dag.Cut(c.g)
		if !slices.Equal(cut, c.want) || e != c.e {
			t.Errorf("row %d: %v, %d", i, cut, e)
		}
		if dag.CheckCut(c.g, c.want) != (c.e == api.OK) {
			t.Errorf("row %d: CheckCut", i)
		}
		if !equal(c.g, kept) {
			t.Errorf("row %d: the graph was changed", i)
		}
	}
}

// upwards returns the numbers from 0 to n - 1.
func upwards(n int) []int {
	l := make([]int, n)
	for i := range l {
		l[i] = i
	}
	return l
}

// P9.1: any right cut is accepted, also one with nodes to which no way from the start leads.
func TestCheckCut(t *testing.T) {
	web := graph(6, "3 4 0 1 3 0 0 3 0 2 5 0 1 5 0")
	for i, c := range []struct {
		g     api.Graph
		nodes []int
		want  bool
	}{
		{broken(), []int{0, 1, 2}, true}, {broken(), []int{0, 1}, false}, {broken(), []int{0, 2}, false}, {broken(), []int{0}, false}, {broken(), []int{1, 2}, false}, {broken(), []int{0, 1, 2, 3}, false}, {broken(), nil, false}, {broken(), []int{}, false},
		{broken(), []int{0, 2, 1}, false}, {broken(), []int{1, 0, 2}, false}, {broken(), []int{0, 0, 1, 2}, false}, {broken(), []int{0, 1, 1, 2}, false}, {broken(), []int{0, 1, 2, 2}, false}, {broken(), []int{0, 1, 2, 4}, false}, {broken(), []int{-1, 0, 1, 2}, false},
		{broken(), []int{0, 1, 2, math.MaxInt}, false}, {broken(), []int{math.MinInt, 0, 1, 2}, false}, {broken(), slices.Repeat([]int{0, 1, 2}, 1000), false}, {broken(), make([]int, 100000), false}, {broken(), upwards(100000), false},
		{web, []int{0, 3, 4}, true}, {web, []int{0, 1, 3, 4}, false}, {web, []int{0, 2, 3, 4}, false}, {web, []int{0, 3}, false}, {web, []int{0, 4}, false}, {web, []int{0, 3, 4, 5}, false}, {web, []int{3, 4}, false},
		{graph(4, "1 2 0"), []int{0}, true}, {graph(4, "1 2 0"), []int{0, 1, 2}, true}, {graph(4, "1 2 0"), []int{0, 2}, true}, {graph(4, "1 2 0"), []int{0, 1}, false}, {graph(4, "1 2 0"), []int{1, 2}, false}, {graph(4, "1 2 0"), []int{0, 3}, false},
		{graph(1, ""), nil, false}, {graph(1, ""), []int{0}, false}, {graph(2, ""), []int{0}, true}, {graph(2, ""), []int{0, 1}, false}, {graph(2, ""), []int{1}, false}, {graph(2, "0 1 0"), []int{0}, false}, {graph(2, "0 1 0"), []int{0, 1}, false}, {graph(2, "0 1 0"), nil, false},
		{example(), []int{0}, false}, {example(), []int{0, 1}, false}, {example(), []int{0, 1, 2}, false}, {example(), []int{0, 1, 2, 3}, false}, {graph(2000, ""), []int{0}, true}, {graph(2000, ""), upwards(1999), true}, {graph(2000, ""), upwards(2000), false},
	} {
		kept := slices.Clone(c.nodes)
		if is := dag.CheckCut(c.g, c.nodes); is != c.want {
			t.Errorf("row %d: %v", i, is)
		}
		if !slices.Equal(c.nodes, kept) {
			t.Errorf("row %d: the list was changed", i)
		}
	}
}

// P9.1
func TestTrim(t *testing.T) {
	for i, c := range []struct {
		g, want api.Graph
		former  string
		e       api.Errno
	}{
		{graph(1, ""), graph(1, ""), "0", 0}, {graph(2, ""), api.Graph{}, "", api.ErrNone}, {graph(2, "0 1 7"), graph(2, "0 1 7"), "0 1", 0}, {graph(3, "0 2 7"), graph(2, "0 1 7"), "0 2", 0}, {broken(), api.Graph{}, "", api.ErrNone}, {example(), example(), "0 1 2 3", 0},
		{mixed(), graph(4, "2 3 1 1 2 2 0 1 3 1 2 7 0 2 8"), "0 2 5 6", 0}, {graph(5, "0 1 1 1 2 2 2 3 3 3 4 4 1 4 5"), graph(5, "0 1 1 1 2 2 2 3 3 3 4 4 1 4 5"), "0 1 2 3 4", 0}, {graph(5, "0 1 1 1 2 2 2 3 3 1 4 5"), graph(3, "0 1 1 1 2 5"), "0 1 4", 0}, {graph(5, "1 2 2 2 4 3 1 4 5 0 4 6 0 4 6"), graph(2, "0 1 6 0 1 6"), "0 4", 0},
		{graph(2000, "0 1999 5 0 1000 3 1000 1998 1 999 1000 1 1000 1999 8"), graph(3, "0 2 5 0 1 3 1 2 8"), "0 1000 1999", 0}, {graph(2000, "1 1999 5 0 1998 3"), api.Graph{}, "", api.ErrNone}, {ahead(doubling(64)), graph(2, "0 1 0"), "0 65", 0}, {behind(doubling(64)), graph(2, "0 1 0"), "0 65", 0}, {ahead(behind(doubling(64))), graph(2, "0 1 0"), "0 66", 0}, {chain(2, 0, 2), api.Graph{}, "", api.ErrNone},
	} {
		kept := cloned(c.g)
		trimmed, former, e := dag.Trim(c.g)
		if !equal(trimmed, c.want) || !slices.Equal(former, numbers(c.former)) || e != c.e {
			t.Errorf("row %d: %v, %v, %d", i, trimmed, former, e)
		}
		if !equal(c.g, kept) {
			t.Errorf("row %d: the graph was changed", i)
		}
	}
	if trimmed, former, e := dag.Trim(doubling(1999)); !equal(trimmed, doubling(1999)) || !slices.Equal(former, upwards(2000)) || e != api.OK {
		t.Errorf("many paths: %d nodes, %d", trimmed.Nodes, e)
	}
}

// P9.1
func TestReverse(t *testing.T) {
	for i, c := range []struct{ g, want api.Graph }{
		{graph(1, ""), graph(1, "")}, {graph(2, ""), graph(2, "")}, {graph(2, "0 1 7"), graph(2, "0 1 7")}, {graph(4, "0 1 1 0 2 2"), graph(4, "2 3 1 1 3 2")}, {example(), graph(4, "2 3 1 1 3 2 0 2 3 0 1 4 0 3 9")}, {graph(5, "3 4 1 0 2 2 3 4 3"), graph(5, "0 1 1 2 4 2 0 1 3")}, {graph(2000, "0 1 5"), graph(2000, "1998 1999 5")},
	} {
		kept := cloned(c.g)
		if r, e := dag.Reverse(c.g); !equal(r, c.want) || e != api.OK {
			t.Errorf("row %d: %v, %d", i, r, e)
		}
		if !equal(c.g, kept) {
			t.Errorf("row %d: the graph was changed", i)
		}
	}
}

// Results share no memory with the graph, with one another, or with those of other calls.
func TestResultsAreTheirOwn(t *testing.T) {
	g := example()
	for range 2 {
		paths, _ := dag.Paths(g)
		trimmed, former, _ := dag.Trim(g)
		reversed, _ := dag.Reverse(g)
		cut, _ := dag.Cut(broken())
		if !equalLists(paths, lists("0 2,1 3,4")) || !equal(trimmed, example()) || !slices.Equal(former, upwards(4)) || !equal(reversed, graph(4, "2 3 1 1 3 2 0 2 3 0 1 4 0 3 9")) || !slices.Equal(cut, upwards(3)) {
			t.Fatalf("%v, %v, %v, %v, %v", paths, trimmed, former, reversed, cut)
		}
		for i := range paths {
			paths[i] = append(paths[i], 9, 9)
			paths[i][0] = 9
			if later := paths[i+1:]; !equalLists(later, lists("0 2,1 3,4")[i+1:]) {
				t.Fatalf("path %d shares memory: %v", i, later)
			}
		}
		trimmed.Arcs[0].Cost, reversed.Arcs[0].Cost, former[0], cut[0] = 9, 9, 9, 9
		if !equal(g, example()) {
			t.Fatalf("%v", g)
		}
	}
}

// Equal arguments have equal results, whether their lists are nil or empty.
func TestNilAndEmpty(t *testing.T) {
	none, empty := api.Graph{Nodes: 2}, api.Graph{Nodes: 2, Arcs: []api.Arc{}}
	cut, e1 := dag.Cut(none)
	other, e2 := dag.Cut(empty)
	if !reflect.DeepEqual(cut, other) || e1 != e2 || !dag.CheckCut(empty, cut) || dag.CheckCut(empty, nil) || dag.CheckCut(none, []int{}) {
		t.Errorf("%v, %v, %d, %d", cut, other, e1, e2)
	}
	if dag.Check(none, nil) || dag.Check(none, []int{}) || !dag.Check(api.Graph{Nodes: 1}, []int{}) || !dag.Check(api.Graph{Nodes: 1, Arcs: []api.Arc{}}, nil) {
		t.Error("Check of no arcs")
	}
}
