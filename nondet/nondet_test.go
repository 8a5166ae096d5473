package nondet_test

import (
	"math"
	"reflect"
	"slices"
	"strings"
	"testing"

	"anceps/api"
	"anceps/automaton"
	"anceps/nondet"
)

// digits returns the numbers whose digits a text contains, -1 for e.
func digits(s string) []int {
	var l []int
	for _, b := range s {
		if b == 'e' {
			l = append(l, -1)
		} else {
			l = append(l, int(b-'0'))
		}
	}
	return l
}

// nfa returns an automaton; an edge is written with three digits: From, Letter (e for none), To.
func nfa(letters, states int, starts, accept, edges string) api.NFA {
	n := api.NFA{Letters: letters, States: states, Starts: digits(starts), Accept: digits(accept)}
	for _, s := range strings.Fields(edges) {
		d := digits(s)
		n.Edges = append(n.Edges, api.Edge{From: d[0], Letter: d[1], To: d[2]})
	}
	return n
}

// upwards returns the numbers from 0 to n - 1.
func upwards(n int) []int {
	l := make([]int, n)
	for i := range l {
		l[i] = i
	}
	return l
}

// dense returns an automaton with so many edges, the first ones that there can be, the last state of which can be reached only if it is a start.
func dense(letters, states, edges int) api.NFA {
	n := api.NFA{Letters: letters, States: states, Starts: []int{0}, Accept: []int{states - 1}}
	for from := range states {
		for letter := -1; letter < letters; letter++ {
			for to := range states - 1 {
				if len(n.Edges) < edges {
					n.Edges = append(n.Edges, api.Edge{From: from, Letter: letter, To: to})
				}
			}
		}
	}
	return n
}

// cycles returns an automaton of one letter with a cycle for each number, all of which start and accept at their first states.
func cycles(sizes ...int) api.NFA {
	n := api.NFA{Letters: 1}
	for _, size := range sizes {
		n.Starts = append(n.Starts, n.States)
		for i := range size {
			n.Edges = append(n.Edges, api.Edge{From: n.States + i, To: n.States + (i+1)%size})
		}
		n.States += size
	}
	n.Accept = slices.Clone(n.Starts)
	return n
}

// led returns n with a new start behind its states, from which a letter leads to its starts.
func led(n api.NFA, letter int) api.NFA {
	n = cloned(n)
	for _, start := range n.Starts {
		n.Edges = append(n.Edges, api.Edge{From: n.States, Letter: letter, To: start})
	}
	n.Starts = []int{n.States}
	n.States++
	return n
}

func accepting(n api.NFA, accept []int) api.NFA {
	n.Accept = accept
	return n
}

func cloned(n api.NFA) api.NFA {
	n.Starts, n.Edges, n.Accept = slices.Clone(n.Starts), slices.Clone(n.Edges), slices.Clone(n.Accept)
	return n
}

func equal(a, b api.NFA) bool {
	return a.Letters == b.Letters && a.States == b.States && slices.Equal(a.Starts, b.Starts) && slices.Equal(a.Edges, b.Edges) && slices.Equal(a.Accept, b.Accept)
}

func isZero(n api.NFA) bool {
	return equal(n, api.NFA{})
}

// dfa returns an automaton with a row and a byte of accept (+ or -) for each state.
func dfa(letters, start int, accept string, rows ...[]int) api.DFA {
	a := api.DFA{Letters: letters, Start: start, Next: rows}
	for _, b := range accept {
		a.Accept = append(a.Accept, b == '+')
	}
	return a
}

func same(a, b api.DFA) bool {
	return a.Letters == b.Letters && a.Start == b.Start && slices.Equal(a.Accept, b.Accept) && slices.EqualFunc(a.Next, b.Next, slices.Equal)
}

// The automata of the chapter's examples.
func example() api.NFA { return nfa(2, 2, "0", "1", "000 001 010") }
func silent() api.NFA  { return nfa(2, 2, "0", "1", "000 001 010 1e0") }

// validOnes returns automata that are just valid.
func validOnes() []api.NFA {
	return []api.NFA{
		nfa(1, 0, "", "", ""), nfa(8, 0, "", "", ""), {Letters: 2, Starts: []int{}, Edges: []api.Edge{}, Accept: []int{}}, nfa(1, 1, "", "", ""), nfa(1, 1, "0", "0", "0e0 000"),
		nfa(8, 1, "0", "0", "0e0 070"), nfa(8, 2, "01", "01", "0e0 0e1 070 071 1e0 170 171"), nfa(2, 3, "02", "1", "0e2 000 001 012 100 210"), example(), silent(),
		{Letters: 1, States: 400, Starts: []int{399}, Edges: []api.Edge{{From: 399, Letter: 0, To: 399}}, Accept: []int{0, 399}}, {Letters: 1, States: 400, Starts: upwards(400), Accept: upwards(400)},
		dense(8, 400, 4000), dense(1, 46, 4000), cycles(400),
	}
}

// invalidOnes returns automata that are just not valid.
func invalidOnes() []api.NFA {
	l := []api.NFA{
		{}, nfa(0, 0, "", "", ""), nfa(9, 0, "", "", ""), nfa(-1, 0, "", "", ""), nfa(0, 1, "0", "0", ""), nfa(9, 1, "0", "0", "000"), nfa(math.MaxInt, 1, "0", "0", "000"), nfa(math.MinInt, 1, "", "", ""),
		nfa(1, -1, "", "", ""), nfa(1, 401, "", "", ""), nfa(1, math.MaxInt, "0", "0", "000"), nfa(1, math.MinInt, "", "", ""), nfa(1, 0, "0", "", ""), nfa(1, 0, "", "0", ""), nfa(1, 0, "", "", "000"), nfa(1, 0, "", "", "0e0"),
		nfa(1, 2, "2", "", ""), nfa(1, 2, "e", "", ""), nfa(1, 2, "02", "", ""), nfa(1, 2, "e0", "", ""), nfa(1, 2, "10", "", ""), nfa(1, 2, "00", "", ""), nfa(1, 2, "011", "", ""), nfa(1, 3, "021", "", ""),
		nfa(1, 2, "", "2", ""), nfa(1, 2, "", "e", ""), nfa(1, 2, "", "02", ""), nfa(1, 2, "", "e0", ""), nfa(1, 2, "", "10", ""), nfa(1, 2, "", "00", ""), nfa(1, 2, "", "011", ""), nfa(1, 3, "", "021", ""),
		nfa(2, 2, "0", "1", "200"), nfa(2, 2, "0", "1", "e00"), nfa(2, 2, "0", "1", "002"), nfa(2, 2, "0", "1", "00e"), nfa(2, 2, "0", "1", "020"), nfa(2, 2, "0", "1", "0e2"), nfa(2, 2, "0", "1", "ee0"),
		nfa(2, 2, "0", "1", "000 000"), nfa(2, 2, "0", "1", "001 000"), nfa(2, 2, "0", "1", "010 000"), nfa(2, 2, "0", "1", "010 001"), nfa(2, 2, "0", "1", "000 0e0"), nfa(2, 2, "0", "1", "000 0e1"), nfa(2, 2, "0", "1", "100 000"),
		nfa(2, 2, "0", "1", "100 011"), nfa(2, 2, "0", "1", "0e0 0e0"), nfa(2, 2, "0", "1", "000 001 010 010"), nfa(2, 2, "0", "1", "000 001 010 110 102"), dense(8, 400, 4001), dense(1, 50, 4001),
		{Letters: 1, States: 401, Starts: upwards(400), Accept: []int{400}}, cycles(401), accepting(cycles(3), upwards(4)), {Letters: 1, States: 3, Starts: upwards(100000)},
	}
	for _, number := range []int{-2, math.MaxInt, math.MinInt} {
		l = append(l, api.NFA{Letters: 1, States: 1, Starts: []int{number}}, api.NFA{Letters: 1, States: 1, Accept: []int{number}})
		for _, edge := range []api.Edge{{From: number}, {Letter: number}, {To: number}} {
			l = append(l, api.NFA{Letters: 1, States: 1, Edges: []api.Edge{edge}})
		}
	}
	return l
}

// P7.1
func TestValid(t *testing.T) {
	for i, n := range validOnes() {
		if e := nondet.Valid(n); e != api.OK {
			t.Errorf("valid one %d: %d", i, e)
		}
	}
	for i, n := range invalidOnes() {
		if e := nondet.Valid(n); e != api.ErrInvalid {
			t.Errorf("other one %d: %d", i, e)
		}
	}
}

// P7.1
func TestAccepts(t *testing.T) {
	// Starts are closed as well, sets that are empty stay empty, and a silent edge can stand anywhere.
	late := nfa(2, 4, "0", "3", "0e1 102 2e3")
	loop := nfa(2, 3, "0", "2", "0e1 1e0 112 2e2")
	for i, c := range []struct {
		n    api.NFA
		word string
		want bool
		e    api.Errno
	}{
		{example(), "", false, 0}, {example(), "0", true, 0}, {example(), "1", false, 0}, {example(), "10", true, 0}, {example(), "01", false, 0}, {example(), "00110100", true, 0}, {example(), "0011010", true, 0}, {example(), "0101", false, 0},
		{silent(), "", false, 0}, {silent(), "0", true, 0}, {silent(), "1", false, 0}, {silent(), "10", true, 0}, {silent(), "01", false, 0}, {silent(), "00110100", true, 0}, {silent(), "0101", false, 0},
		{late, "", false, 0}, {late, "0", true, 0}, {late, "00", false, 0}, {late, "1", false, 0}, {late, "10", false, 0}, {loop, "1", true, 0}, {loop, "", false, 0}, {loop, "11", false, 0},
		{nfa(1, 1, "0", "0", ""), "", true, 0}, {nfa(1, 1, "", "0", "000"), "", false, 0}, {nfa(1, 1, "", "0", "000"), "0", false, 0}, {nfa(1, 1, "0", "", "000"), "0", false, 0}, {nfa(1, 0, "", "", ""), "", false, 0}, {nfa(1, 0, "", "", ""), "00", false, 0},
		{nfa(1, 2, "01", "1", ""), "", true, 0}, {nfa(1, 2, "0", "1", "0e1"), "", true, 0}, {nfa(1, 2, "1", "0", "0e1"), "", false, 0}, {nfa(1, 3, "0", "2", "0e1 1e2"), "", true, 0},
		{nfa(8, 2, "0", "1", "071"), "7", true, 0}, {nfa(8, 2, "0", "1", "071"), "8", false, api.ErrRange},
		// A number that is no letter is an error wherever it stands.
		{example(), "2", false, api.ErrRange}, {example(), "e", false, api.ErrRange}, {example(), "002", false, api.ErrRange}, {example(), "0e0", false, api.ErrRange}, {late, "111112", false, api.ErrRange}, {nfa(1, 0, "", "", ""), "0001", false, api.ErrRange},
		{nfa(1, 1, "0", "0", "0e0"), "e", false, api.ErrRange}, {nfa(1, 1, "", "", ""), "01", false, api.ErrRange},
	} {
		word := digits(c.word)
		if is, e := nondet.Accepts(c.n, word); is != c.want || e != c.e {
			t.Errorf("row %d: %v, %d", i, is, e)
		}
		if !slices.Equal(word, digits(c.word)) {
			t.Errorf("row %d: the word was changed", i)
		}
	}
	for _, number := range []int{math.MaxInt, math.MinInt, 1 << 32, -2} {
		if is, e := nondet.Accepts(example(), []int{0, number}); is || e != api.ErrRange {
			t.Errorf("%d: %v, %d", number, is, e)
		}
	}
}

// P7.1: long words, with sets of many states.
func TestAcceptsLongWords(t *testing.T) {
	zeros := make([]int, 100000)
	for i, c := range []struct {
		n    api.NFA
		word []int
		want bool
	}{
		{cycles(16, 25), zeros[:399], false}, {cycles(16, 25), zeros[:400], true}, {cycles(16, 25), zeros[:416], true}, {cycles(16, 25), zeros[:424], false}, {cycles(16, 25), zeros[:425], true},
		{cycles(400), zeros, true}, {cycles(400), zeros[1:], false}, {cycles(7, 11, 13, 64, 81), zeros, false}, {cycles(7, 11, 13, 64, 81), zeros[:99999/11*11], true},
		{dense(1, 45, 3960), zeros[:5000], false}, {accepting(dense(1, 45, 3960), upwards(1)), zeros[:5000], true}, {dense(8, 400, 4000), zeros[:5000], false},
	} {
		if is, e := nondet.Accepts(c.n, c.word); is != c.want || e != api.OK {
			t.Errorf("row %d: %v, %d", i, is, e)
		}
	}
}

// P7.1
func TestClosure(t *testing.T) {
	web := nfa(2, 6, "0", "5", "0e2 001 1e0 2e4 2e5 211 4e2 511")
	chain := api.NFA{Letters: 1, States: 400}
	for state := range 399 {
		chain.Edges = append(chain.Edges, api.Edge{From: state, Letter: -1, To: state + 1})
	}
	for i, c := range []struct {
		n            api.NFA
		states, want []int
		e            api.Errno
	}{
		{silent(), []int{1}, []int{0, 1}, 0}, {silent(), []int{0}, []int{0}, 0}, {example(), []int{1}, []int{1}, 0}, {example(), []int{1, 0}, []int{0, 1}, 0}, {silent(), nil, nil, 0}, {silent(), []int{}, nil, 0},
		{web, []int{0}, []int{0, 2, 4, 5}, 0}, {web, []int{1}, []int{0, 1, 2, 4, 5}, 0}, {web, []int{2}, []int{2, 4, 5}, 0}, {web, []int{3}, []int{3}, 0}, {web, []int{4}, []int{2, 4, 5}, 0}, {web, []int{5}, []int{5}, 0},
		{web, []int{5, 3}, []int{3, 5}, 0}, {web, []int{5, 3, 5, 3, 3, 5}, []int{3, 5}, 0}, {web, []int{4, 3, 0}, []int{0, 2, 3, 4, 5}, 0}, {web, nil, nil, 0}, {nfa(3, 0, "", "", ""), nil, nil, 0},
		{chain, []int{0}, upwards(400), 0}, {chain, []int{399}, []int{399}, 0}, {chain, []int{399, 200}, upwards(400)[200:], 0}, {chain, slices.Repeat([]int{399, 398}, 100000), []int{398, 399}, 0},
		{dense(1, 45, 3960), []int{3, 44}, upwards(45), 0}, {cycles(400), []int{64, 63, 128, 0, 127, 399}, []int{0, 63, 64, 127, 128, 399}, 0},
		{web, []int{6}, nil, api.ErrRange}, {web, []int{-1}, nil, api.ErrRange}, {web, []int{0, 1, 2, 6}, nil, api.ErrRange}, {web, []int{math.MaxInt, 0}, nil, api.ErrRange}, {web, []int{0, math.MinInt}, nil, api.ErrRange},
		{nfa(3, 0, "", "", ""), []int{0}, nil, api.ErrRange}, {nfa(3, 0, "", "", ""), []int{-1}, nil, api.ErrRange}, {chain, []int{400}, nil, api.ErrRange},
	} {
		kept := slices.Clone(c.states)
		if l, e := nondet.Closure(c.n, c.states); !slices.Equal(l, c.want) || e != c.e {
			t.Errorf("row %d: %v, %d", i, l, e)
		}
		if !slices.Equal(c.states, kept) {
			t.Errorf("row %d: the list was changed", i)
		}
	}
}

// P7.1
func TestDetermine(t *testing.T) {
	ends := dfa(2, 0, "-+", []int{1, 0}, []int{1, 0})
	for i, c := range []struct {
		n    api.NFA
		want api.DFA
	}{
		{example(), ends}, {silent(), ends}, {nfa(3, 0, "", "", ""), dfa(3, -1, "")}, {nfa(3, 2, "", "01", "000 011"), dfa(3, -1, "")}, {nfa(3, 2, "01", "", "000 011"), dfa(3, -1, "")},
		{nfa(1, 2, "0", "1", "000"), dfa(1, -1, "")}, {nfa(2, 1, "0", "0", "0e0"), dfa(2, 0, "+", []int{-1, -1})}, {nfa(2, 3, "0", "2", "0e1 102 2e0"), dfa(2, 0, "-+", []int{1, -1}, []int{1, -1})},
		{nfa(2, 2, "01", "1", "001 110"), dfa(2, 0, "++-", []int{1, 2}, []int{-1, 2}, []int{1, -1})}, {nfa(2, 3, "12", "0", "100 210"), dfa(2, 0, "-+", []int{1, 1}, []int{-1, -1})},
		// Sets that do the same, and one that leads nowhere.
		{nfa(1, 3, "0", "12", "001 002 101 202"), dfa(1, 0, "-+", []int{1}, []int{1})}, {nfa(2, 3, "0", "1", "001 012 202 212"), dfa(2, 0, "-+", []int{1, -1}, []int{-1, -1})},
		// The third letter from behind is 1.
		{nfa(2, 4, "0", "3", "000 010 011 102 112 203 213"), dfa(2, 0, "----++++", []int{0, 1}, []int{2, 3}, []int{4, 5}, []int{6, 7}, []int{0, 1}, []int{2, 3}, []int{4, 5}, []int{6, 7})},
	} {
		kept := cloned(c.n)
		if d, e := nondet.Determine(c.n); !same(d, c.want) || e != api.OK {
			t.Errorf("row %d: %v, %d", i, d, e)
		}
		if !equal(c.n, kept) {
			t.Errorf("row %d: the automaton was changed", i)
		}
	}
}

// last returns an automaton of the words whose letter with this number from behind is 1: it leads to 2^number sets.
func last(number int) api.NFA {
	n := api.NFA{Letters: 2, States: number + 1, Starts: []int{0}, Accept: []int{number}, Edges: []api.Edge{{}, {Letter: 1}, {Letter: 1, To: 1}}}
	for state := 1; state < number; state++ {
		n.Edges = append(n.Edges, api.Edge{From: state, To: state + 1}, api.Edge{From: state, Letter: 1, To: state + 1})
	}
	return n
}

// P7.1: there are at most 400 reached sets, whatever words lead from them to a state that accepts; the empty set is none of them.
func TestDetermineSizes(t *testing.T) {
	for i, c := range []struct {
		n    api.NFA
		want int // how many states, or -1 for an error
	}{
		{cycles(400), 400}, {accepting(cycles(400), upwards(400)), 1}, {accepting(cycles(400), nil), 0}, {cycles(16, 25), 400}, {accepting(cycles(16, 25), upwards(41)), 1}, {accepting(cycles(16, 25), nil), 0},
		{led(cycles(16, 25), 0), -1}, {led(cycles(16, 25), -1), -1}, {accepting(led(cycles(16, 25), 0), upwards(42)), -1}, {accepting(led(cycles(16, 25), 0), nil), -1}, {led(cycles(19, 21), 0), 399}, {accepting(led(cycles(19, 21), 0), []int{0, 19, 40}), 400}, {led(cycles(19, 21), -1), 399},
		{led(led(cycles(19, 21), 0), 0), -1}, {cycles(3, 134), -1}, {accepting(cycles(3, 134), nil), -1}, {accepting(cycles(3, 134), upwards(3)), -1}, {cycles(199, 201), -1}, {cycles(2, 3, 5, 7, 11, 13), -1}, {accepting(cycles(2, 3, 5, 7, 11, 13), upwards(41)), -1},
		{last(8), 256}, {last(9), -1}, {accepting(last(9), nil), -1}, {last(399), -1}, {widened(cycles(16, 25)), 400}, {widened(led(cycles(16, 25), 0)), -1}, {widened(cycles(400)), 400},
		{api.NFA{Letters: 8, States: 400, Starts: upwards(400), Accept: upwards(400)}, 1}, {accepting(dense(1, 45, 3960), upwards(45)), 1}, {accepting(dense(8, 400, 4000), upwards(1)), 1},
	} {
		d, e := nondet.Determine(c.n)
		if c.want < 0 && (!reflect.DeepEqual(d, api.DFA{}) || e != api.ErrTooLarge) || c.want >= 0 && (len(d.Next) != c.want || e != api.OK) {
			t.Errorf("row %d: %d states, %d", i, len(d.Next), e)
		}
	}
}

// widened returns n with more letters, by which nothing is reached.
func widened(n api.NFA) api.NFA {
	n.Letters = 8
	return n
}

// made is what a function has returned.
type made struct {
	n api.NFA
	e api.Errno
}

func of(n api.NFA, e api.Errno) made { return made{n, e} }

// P7.1
func TestConstructions(t *testing.T) {
	one, blank, empty := nfa(2, 2, "0", "1", "011"), nfa(2, 1, "0", "0", ""), nfa(2, 0, "", "", "")
	for i, c := range []struct {
		made
		words, others string // e stands for the word without letters
	}{
		{of(nondet.Reverse(nfa(2, 3, "0", "2", "001 112"))), "10", "e 0 1 01 00 11 010"}, {of(nondet.Reverse(nfa(2, 4, "01", "23", "0e1 102 113 3e2"))), "0 1", "e 00 01 10 11"},
		{of(nondet.Reverse(example())), "0 00 01 011 0100", "e 1 10 11 100 110"}, {of(nondet.Reverse(blank)), "e", "0 1 00"}, {of(nondet.Reverse(empty)), "", "e 0 1 00"}, {of(nondet.Reverse(nfa(2, 2, "01", "", "001"))), "", "e 0 1"},
		{of(nondet.Union(one, nfa(2, 2, "0", "1", "001"))), "0 1", "e 00 01 10 11"}, {of(nondet.Union(nfa(2, 2, "1", "0", "001 110"), example())), "1 0 00 10 101 100", "e 01 11 011 1011"},
		{of(nondet.Union(empty, one)), "1", "e 0 11"}, {of(nondet.Union(one, empty)), "1", "e 0 11"}, {of(nondet.Union(empty, empty)), "", "e 0 1"}, {of(nondet.Union(one, blank)), "e 1", "0 11"}, {of(nondet.Union(blank, one)), "e 1", "0 11"},
		{of(nondet.Concat(one, example())), "10 100 110", "e 0 1 00 01 11 101 010 000"}, {of(nondet.Concat(example(), one)), "01 001 101", "e 0 1 00 10 11 100 010 000"}, {of(nondet.Concat(blank, blank)), "e", "0 1 00"},
		{of(nondet.Concat(empty, one)), "", "e 0 1 11"}, {of(nondet.Concat(one, empty)), "", "e 0 1 11"}, {of(nondet.Concat(blank, one)), "1", "e 0 11"}, {of(nondet.Concat(one, blank)), "1", "e 0 11"},
		{of(nondet.Concat(nfa(2, 2, "01", "01", "011"), nfa(2, 2, "01", "01", "001"))), "e 0 1 10", "01 11 00 110"},
		{of(nondet.Star(nfa(2, 3, "0", "2", "001 112"))), "e 01 0101 010101", "0 1 10 11 010 0110"}, {of(nondet.Star(empty)), "e", "0 1 00"}, {of(nondet.Star(blank)), "e", "0 1 00"}, {of(nondet.Star(nfa(2, 2, "0", "", "001"))), "e", "0 1 00"},
		// Words whose ways come back to a start, or go on behind a state that accepts.
		{of(nondet.Star(nfa(2, 2, "0", "1", "001 110"))), "e 0 00 010 0100 00010", "1 01 10 011 0110"}, {of(nondet.Star(nfa(2, 3, "01", "2", "001 102 210"))), "e 0 00 000 0100 01000 00100", "1 01 10 010 011 0110"},
		{of(nondet.Of(dfa(2, 1, "-+", []int{1, -1}, []int{-1, 0}))), "e 10 1010", "0 1 01 101"}, {of(nondet.Of(dfa(2, 0, "-+", []int{1, -1}, []int{-1, 0}))), "0 010", "e 1 00 01 10"}, {of(nondet.Of(dfa(2, -1, ""))), "", "e 0 1"},
	} {
		if c.e != api.OK || nondet.Valid(c.n) != api.OK || c.n.Letters != 2 {
			t.Errorf("row %d: %v, %d", i, c.n, c.e)
		}
		for _, word := range strings.Fields(c.words) {
			if is, e := nondet.Accepts(c.n, wordOf(word)); !is || e != api.OK {
				t.Errorf("row %d: %v does not accept %s", i, c.n, word)
			}
		}
		for _, word := range strings.Fields(c.others) {
			if is, e := nondet.Accepts(c.n, wordOf(word)); is || e != api.OK {
				t.Errorf("row %d: %v accepts %s", i, c.n, word)
			}
		}
	}
}

func wordOf(s string) []int {
	return digits(strings.TrimPrefix(s, "e"))
}

// P7.1: the sizes that the results would have if they were built as the chapter says.
func TestSizes(t *testing.T) {
	for i, c := range []struct {
		made
		want api.Errno
	}{
		{of(nondet.Union(states(200), states(200))), 0}, {of(nondet.Union(states(200), states(201))), api.ErrTooLarge}, {of(nondet.Union(states(400), states(0))), 0}, {of(nondet.Union(states(400), states(1))), api.ErrTooLarge},
		{of(nondet.Union(states(1), states(400))), api.ErrTooLarge}, {of(nondet.Union(states(400), states(400))), api.ErrTooLarge}, {of(nondet.Union(dense(1, 46, 2000), dense(1, 46, 2000))), 0}, {of(nondet.Union(dense(1, 46, 2000), dense(1, 46, 2001))), api.ErrTooLarge},
		{of(nondet.Union(dense(1, 46, 4000), states(354))), 0}, {of(nondet.Union(dense(1, 46, 4000), states(355))), api.ErrTooLarge}, {of(nondet.Union(dense(1, 46, 4000), nfa(1, 1, "", "", "000"))), api.ErrTooLarge},
		{of(nondet.Concat(states(200), states(200))), api.ErrTooLarge}, {of(nondet.Concat(accepting(states(200), upwards(20)), states(200))), 0}, {of(nondet.Concat(accepting(states(200), upwards(21)), states(200))), api.ErrTooLarge},
		{of(nondet.Concat(accepting(states(200), nil), states(200))), 0}, {of(nondet.Concat(accepting(states(200), nil), states(201))), api.ErrTooLarge}, {of(nondet.Concat(states(0), states(400))), 0}, {of(nondet.Concat(states(400), states(0))), 0},
		{of(nondet.Concat(states(1), states(400))), api.ErrTooLarge}, {of(nondet.Concat(states(400), states(400))), api.ErrTooLarge}, {of(nondet.Concat(states(63), states(63))), 0}, {of(nondet.Concat(states(64), states(63))), api.ErrTooLarge},
		{of(nondet.Concat(accepting(dense(1, 46, 1996), upwards(2)), accepting(dense(1, 46, 2002), upwards(46)))), 0}, {of(nondet.Concat(accepting(dense(1, 46, 1997), upwards(2)), accepting(dense(1, 46, 2002), upwards(46)))), api.ErrTooLarge},
		{of(nondet.Concat(accepting(dense(1, 46, 1996), upwards(3)), accepting(dense(1, 46, 2002), upwards(46)))), api.ErrTooLarge}, {of(nondet.Concat(accepting(dense(1, 46, 4000), nil), states(354))), 0},
		{of(nondet.Star(states(399))), 0}, {of(nondet.Star(states(400))), api.ErrTooLarge}, {of(nondet.Star(accepting(dense(1, 46, 3980), upwards(19)))), 0}, {of(nondet.Star(accepting(dense(1, 46, 3980), upwards(20)))), api.ErrTooLarge},
		{of(nondet.Star(accepting(dense(1, 46, 3981), upwards(19)))), api.ErrTooLarge}, {of(nondet.Star(accepting(dense(1, 46, 3999), nil))), 0}, {of(nondet.Star(accepting(dense(1, 46, 4000), nil))), api.ErrTooLarge},
		{of(nondet.Reverse(states(400))), 0}, {of(nondet.Reverse(dense(1, 46, 4000))), 0}, {of(nondet.Of(full(400))), 0},
	} {
		if c.e != c.want || isZero(c.n) != (c.e != api.OK) || c.e == api.OK && nondet.Valid(c.n) != api.OK {
			t.Errorf("row %d: %d", i, c.e)
		}
	}
}

// states returns an automaton without edges whose states all are starts, and accept.
func states(n int) api.NFA {
	return api.NFA{Letters: 1, States: n, Starts: upwards(n), Accept: upwards(n)}
}

// full returns a deterministic automaton with 8 letters each of which leads from each state to a state.
func full(n int) api.DFA {
	a := api.DFA{Letters: 8, Accept: make([]bool, n)}
	for state := range n {
		a.Accept[state] = state%3 == 0
		a.Next = append(a.Next, slices.Repeat([]int{(state*7 + 1) % n}, 8))
	}
	return a
}

// P7.1, P1: what is not valid is an error of all functions, on either side, whatever else is wrong.
func TestInvalid(t *testing.T) {
	for i, n := range invalidOnes() {
		for _, l := range [][]int{nil, {0}, {1, -1}, {math.MaxInt}} {
			is, e := nondet.Accepts(n, l)
			closed, e1 := nondet.Closure(n, l)
			if is || e != api.ErrInvalid || closed != nil || e1 != api.ErrInvalid {
				t.Errorf("%d: %v, %d, %v, %d", i, is, e, closed, e1)
			}
		}
		d, e := nondet.Determine(n)
		reversed, e1 := nondet.Reverse(n)
		star, e2 := nondet.Star(n)
		if !reflect.DeepEqual(d, api.DFA{}) || !isZero(reversed) || !isZero(star) || e != api.ErrInvalid || e1 != api.ErrInvalid || e2 != api.ErrInvalid {
			t.Errorf("%d: %d, %d, %d", i, e, e1, e2)
		}
		for _, other := range append(validOnes(), invalidOnes()...) {
			checkInvalidPair(t, n, other)
			checkInvalidPair(t, other, n)
		}
	}
	for _, a := range validOnes() {
		for _, b := range validOnes() {
			if a.Letters != b.Letters {
				checkInvalidPair(t, a, b)
			}
		}
	}
}

func checkInvalidPair(t *testing.T, a, b api.NFA) {
	t.Helper()
	u, e := nondet.Union(a, b)
	c, e1 := nondet.Concat(a, b)
	if !isZero(u) || !isZero(c) || e != api.ErrInvalid || e1 != api.ErrInvalid {
		t.Errorf("%v, %v: %d, %d", a, b, e, e1)
	}
}

// P7.1
func TestOfInvalid(t *testing.T) {
	for i, a := range []api.DFA{
		{}, dfa(0, -1, ""), dfa(9, -1, ""), dfa(2, 0, ""), dfa(2, -1, "+", []int{0, 0}), dfa(2, 1, "+", []int{0, 0}), dfa(2, 0, "+", []int{0}), dfa(2, 0, "+", []int{0, 1}), dfa(2, 0, "+", []int{0, -2}), dfa(2, 0, "++", []int{0, 0}),
		dfa(2, 0, "", []int{0, 0}), dfa(1, 0, "+", nil), full(401),
	} {
		if n, e := nondet.Of(a); !isZero(n) || e != api.ErrInvalid {
			t.Errorf("row %d: %v, %d", i, n, e)
		}
		if automaton.Valid(a) != api.ErrInvalid {
			t.Errorf("row %d is valid", i)
		}
	}
}

// A result is new memory: changing it changes no argument, no later result and no other part of it.
func TestResultsAreNew(t *testing.T) {
	a, b := nfa(2, 3, "01", "12", "0e2 001 112 200"), nfa(2, 2, "01", "01", "011 101")
	d := dfa(2, 0, "++", []int{0, 1}, []int{1, 0})
	kept, other := cloned(a), cloned(b)
	calls := []func() made{
		func() made { return of(nondet.Reverse(a)) }, func() made { return of(nondet.Union(a, b)) }, func() made { return of(nondet.Union(a, a)) }, func() made { return of(nondet.Concat(a, b)) }, func() made { return of(nondet.Concat(b, b)) },
		func() made { return of(nondet.Star(a)) }, func() made { return of(nondet.Of(d)) },
	}
	for i, call := range calls {
		first := call()
		if len(first.n.Starts) == 0 || len(first.n.Accept) == 0 || len(first.n.Edges) == 0 {
			t.Fatalf("call %d: %v", i, first)
		}
		want := cloned(first.n)
		first.n.Starts[0]++
		if !slices.Equal(first.n.Accept, want.Accept) {
			t.Errorf("call %d: Starts and Accept share memory", i)
		}
		first.n.Accept[0]++
		first.n.Edges[0].To++
		// What is appended must not reach the memory behind an argument either.
		first.n.Starts, first.n.Accept, first.n.Edges = append(first.n.Starts, 7), append(first.n.Accept, 7), append(first.n.Edges, api.Edge{})
		if again := call(); !equal(again.n, want) || !equal(a, kept) || !equal(b, other) || !same(d, dfa(2, 0, "++", []int{0, 1}, []int{1, 0})) {
			t.Errorf("call %d: %v, %v, %v, %v", i, again, a, b, d)
		}
	}
	l := []int{0, 2}
	for range 2 {
		closed, _ := nondet.Closure(a, l)
		m, _ := nondet.Determine(b)
		if !slices.Equal(closed, []int{0, 2}) || !slices.Equal(l, []int{0, 2}) || len(m.Next) == 0 || m.Start != 0 {
			t.Fatalf("%v, %v, %v", closed, l, m)
		}
		closed[0], m.Next[0][0], m.Accept[0] = 9, 9, false
	}
}
