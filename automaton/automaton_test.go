package automaton_test

import (
	"math"
	"reflect"
	"slices"
	"testing"

	"anceps/api"
	"anceps/automaton"
)

// dfa returns an automaton with a row and a byte of accept (+ or -) for each state.
func dfa(letters, start int, accept string, rows ...[]int) api.DFA {
	a := api.DFA{Letters: letters, Start: start, Next: rows}
	for _, b := range accept {
		a.Accept = append(a.Accept, b == '+')
	}
	return a
}

// empty returns the automaton without states.
func empty(letters int) api.DFA {
	return dfa(letters, -1, "")
}

// cycle returns the automaton of one letter that accepts the words whose length can be divided by n.
func cycle(n int) api.DFA {
	a := api.DFA{Letters: 1, Accept: make([]bool, n)}
	for state := range n {
		a.Next = append(a.Next, []int{(state + 1) % n})
	}
	a.Accept[0] = true
	return a
}

// chain returns the automaton that accepts just one word.
func chain(letters int, word []int) api.DFA {
	a := api.DFA{Letters: letters, Accept: make([]bool, len(word)+1)}
	for state := range len(word) + 1 {
		row := slices.Repeat([]int{-1}, letters)
		if state < len(word) {
			row[word[state]] = state + 1
		}
		a.Next = append(a.Next, row)
	}
	a.Accept[len(word)] = true
	return a
}

func cloned(a api.DFA) api.DFA {
	a.Accept = slices.Clone(a.Accept)
	a.Next = slices.Clone(a.Next)
	for i, row := range a.Next {
		a.Next[i] = slices.Clone(row)
	}
	return a
}

func same(a, b api.DFA) bool {
	return a.Letters == b.Letters && a.Start == b.Start && slices.Equal(a.Accept, b.Accept) && slices.EqualFunc(a.Next, b.Next, slices.Equal)
}

func isZero(a api.DFA) bool {
	return reflect.DeepEqual(a, api.DFA{})
}

// The automata of the chapter's examples.
func exampleA() api.DFA { return dfa(2, 0, "-+", []int{1, -1}, []int{-1, 0}) }
func exampleB() api.DFA { return dfa(2, 0, "-+-", []int{1, -1}, []int{2, 0}, []int{-1, -1}) }
func exampleC() api.DFA { return dfa(2, 0, "-++", []int{1, -1}, []int{2, 0}, []int{-1, -1}) }

// validOnes returns automata that are just valid.
func validOnes() []api.DFA {
	return []api.DFA{
		empty(1), empty(2), empty(8), dfa(1, 0, "-", []int{-1}), dfa(1, 0, "+", []int{0}), dfa(2, 0, "+", []int{0, -1}),
		dfa(2, 1, "-+", []int{1, -1}, []int{-1, 0}), dfa(8, 0, "+", []int{-1, 0, 0, -1, 0, 0, -1, 0}), exampleA(), exampleB(), exampleC(), cycle(400),
		{Letters: 3, Start: -1, Next: [][]int{}, Accept: []bool{}}, chain(2, slices.Repeat([]int{1}, 399)),
	}
}

// invalidOnes returns automata that are just not valid.
func invalidOnes() []api.DFA {
	return []api.DFA{
		{}, empty(0), empty(9), empty(-1), empty(math.MaxInt), empty(math.MinInt), dfa(1, 0, ""), dfa(1, 1, ""), dfa(1, -2, ""), dfa(1, math.MinInt, ""),
		dfa(1, -1, "+", []int{0}), dfa(1, 1, "+", []int{0}), dfa(1, -2, "+", []int{0}), dfa(1, math.MaxInt, "+", []int{0}), dfa(1, math.MinInt, "+", []int{0}),
		dfa(1, 0, "", []int{0}), dfa(1, 0, "++", []int{0}), dfa(1, -1, "+"), dfa(1, 0, "+"), dfa(0, 0, "+", []int{}), dfa(-1, 0, "+", []int{}),
		dfa(1, 0, "+", []int{1}), dfa(1, 0, "+", []int{-2}), dfa(1, 0, "+", []int{math.MaxInt}), dfa(1, 0, "+", []int{math.MinInt}),
		dfa(1, 0, "+", []int{0, 0}), dfa(1, 0, "+", []int{}), dfa(1, 0, "+", nil), dfa(2, 0, "+", []int{0}), dfa(2, 0, "++", []int{0, 1}, []int{0}),
		dfa(2, 0, "++", []int{0, 1}, []int{0, 1, 1}), dfa(2, 0, "++", []int{0, 1}, []int{0, 2}), dfa(9, 0, "+", slices.Repeat([]int{0}, 9)), cycle(401), cycle(100000),
	}
}

// P6.1
func TestValid(t *testing.T) {
	for i, a := range validOnes() {
		if e := automaton.Valid(a); e != api.OK {
			t.Errorf("valid one %d: %d", i, e)
		}
	}
	for i, a := range invalidOnes() {
		if e := automaton.Valid(a); e != api.ErrInvalid {
			t.Errorf("other one %d: %d", i, e)
		}
	}
}

// P6.1
func TestRun(t *testing.T) {
	a := dfa(3, 1, "-+-", []int{1, 2, -1}, []int{0, 1, 2}, []int{-1, -1, -1})
	for i, c := range []struct {
		a       api.DFA
		word    []int
		want    int
		accepts bool
	}{
		{a, nil, 1, true}, {a, []int{}, 1, true}, {a, []int{0}, 0, false}, {a, []int{1}, 1, true}, {a, []int{2}, 2, false}, {a, []int{0, 0}, 1, true}, {a, []int{0, 1}, 2, false},
		{a, []int{0, 2}, -1, false}, {a, []int{2, 0}, -1, false}, {a, []int{0, 2, 0}, -1, false}, {a, []int{0, 0, 1, 1}, 1, true}, {a, []int{1, 2, 0, 0, 1}, -1, false},
		{a, []int{3}, -1, false}, {a, []int{-1}, -1, false}, {a, []int{math.MaxInt}, -1, false}, {a, []int{math.MinInt, 0}, -1, false}, {a, []int{0, 3, 0}, -1, false},
		{empty(2), nil, -1, false}, {empty(2), []int{0}, -1, false}, {empty(2), []int{5}, -1, false}, {dfa(1, 0, "+", []int{1}), nil, -1, false}, {dfa(1, 0, "+", []int{0, 0}), []int{0}, -1, false},
		{cycle(400), slices.Repeat([]int{0}, 100399), 399, false}, {cycle(400), slices.Repeat([]int{0}, 100000), 0, true}, {exampleA(), []int{0, 1, 0}, 1, true}, {exampleA(), []int{0, 1}, 0, false},
	} {
		if state := automaton.Run(c.a, c.word); state != c.want {
			t.Errorf("row %d: %d", i, state)
		}
		if accepts := automaton.Accepts(c.a, c.word); accepts != c.accepts {
			t.Errorf("row %d: %v", i, accepts)
		}
	}
}

// P6.1
func TestMinimal(t *testing.T) {
	for i, c := range []struct{ a, want api.DFA }{
		{empty(3), empty(3)}, {dfa(1, 0, "-", []int{0}), empty(1)}, {dfa(2, 1, "+-", []int{0, 0}, []int{-1, 1}), empty(2)},
		{dfa(2, 0, "+", []int{0, -1}), dfa(2, 0, "+", []int{0, -1})},
		{dfa(1, 1, "++", []int{1}, []int{0}), dfa(1, 0, "+", []int{0})},
		{dfa(1, 2, "+--", []int{2}, []int{0}, []int{1}), dfa(1, 0, "--+", []int{1}, []int{2}, []int{0})},
		{exampleA(), exampleA()}, {exampleB(), exampleA()}, {exampleC(), exampleC()},
		// A state that is not reached, and one that leads nowhere.
		{dfa(2, 1, "++--", []int{0, 0}, []int{3, 2}, []int{1, 3}, []int{3, 3}), dfa(2, 0, "+-", []int{-1, 1}, []int{0, -1})},
		// Two states that do the same, and the order of the letters.
		{dfa(2, 3, "+---", []int{-1, -1}, []int{0, -1}, []int{0, -1}, []int{2, 1}), dfa(2, 0, "--+", []int{1, 1}, []int{2, -1}, []int{-1, -1})},
		{dfa(2, 0, "-+-", []int{2, 1}, []int{-1, -1}, []int{1, -1}), dfa(2, 0, "--+", []int{1, 2}, []int{2, -1}, []int{-1, -1})},
		{dfa(2, 0, "-+-", []int{1, 2}, []int{-1, -1}, []int{1, -1}), dfa(2, 0, "-+-", []int{1, 2}, []int{-1, -1}, []int{1, -1})},
		{cycle(400), cycle(400)}, {chain(8, slices.Repeat([]int{7}, 399)), chain(8, slices.Repeat([]int{7}, 399))},
	} {
		kept := cloned(c.a)
		if m, e := automaton.Minimal(c.a); !same(m, c.want) || e != api.OK {
			t.Errorf("row %d: %v, %d", i, m, e)
		}
		if !same(c.a, kept) {
			t.Errorf("row %d: the automaton was changed", i)
		}
	}
}

// P6.1: states that only long words tell apart.
func TestMinimalLongWords(t *testing.T) {
	a := cycle(400)
	for state := range a.Accept {
		a.Accept[state] = state != 399
	}
	if m, e := automaton.Minimal(a); !same(m, a) || e != api.OK {
		t.Errorf("%d states, %d", len(m.Next), e)
	}
	a.Accept[199] = false
	want := cycle(200)
	want.Accept = slices.Clone(a.Accept[:200])
	if m, e := automaton.Minimal(a); !same(m, want) || e != api.OK {
		t.Errorf("%d states, %d", len(m.Next), e)
	}
}

// P6.1
func TestDifference(t *testing.T) {
	all := dfa(2, 0, "+", []int{0, 0})
	for i, c := range []struct {
		a, b api.DFA
		want []int
		e    api.Errno
	}{
		{empty(2), empty(2), nil, api.ErrNone}, {empty(2), all, nil, api.OK}, {all, empty(2), nil, api.OK}, {exampleA(), exampleB(), nil, api.ErrNone},
		{exampleB(), exampleA(), nil, api.ErrNone}, {exampleA(), exampleC(), []int{0, 0}, api.OK}, {exampleC(), exampleB(), []int{0, 0}, api.OK},
		{exampleA(), empty(2), []int{0}, api.OK}, {empty(2), dfa(2, 0, "-", []int{0, 0}), nil, api.ErrNone}, {all, all, nil, api.ErrNone},
		{all, dfa(2, 0, "+", []int{0, -1}), []int{1}, api.OK}, {dfa(2, 0, "+-", []int{1, 0}, []int{0, 0}), all, []int{0}, api.OK},
		// The shorter word comes first, and of two words of one length that with the lesser letter in front.
		{chain(2, []int{1, 1}), chain(2, []int{0, 0, 0}), []int{1, 1}, api.OK}, {chain(2, []int{1, 0}), chain(2, []int{0, 1}), []int{0, 1}, api.OK},
		{cycle(399), cycle(400), slices.Repeat([]int{0}, 399), api.OK},
		{chain(3, slices.Repeat([]int{2}, 399)), chain(3, append(slices.Repeat([]int{2}, 398), 1)), append(slices.Repeat([]int{2}, 398), 1), api.OK},
	} {
		word, e := automaton.Difference(c.a, c.b)
		if !slices.Equal(word, c.want) || e != c.e {
			t.Errorf("row %d: %v, %d", i, word, e)
		}
		if is, e := automaton.Same(c.a, c.b); is != (c.e == api.ErrNone) || e != api.OK {
			t.Errorf("Same, row %d: %v, %d", i, is, e)
		}
	}
}

// P6.1
func TestRelation(t *testing.T) {
	for i, c := range []struct {
		a, b api.DFA
		want []api.Pair
		e    api.Errno
	}{
		{empty(2), empty(2), nil, api.OK}, {exampleA(), exampleA(), []api.Pair{{A: 0, B: 0}, {A: 1, B: 1}}, api.OK},
		{exampleA(), exampleB(), []api.Pair{{A: -1, B: 2}, {A: 0, B: 0}, {A: 1, B: 1}}, api.OK},
		{exampleB(), exampleA(), []api.Pair{{A: 0, B: 0}, {A: 1, B: 1}, {A: 2, B: -1}}, api.OK},
		{exampleA(), exampleC(), nil, api.ErrConflict}, {exampleC(), exampleA(), nil, api.ErrConflict}, {exampleA(), empty(2), nil, api.ErrConflict},
		{empty(1), dfa(1, 1, "--", []int{1}, []int{0}), []api.Pair{{A: -1, B: 0}, {A: -1, B: 1}}, api.OK},
		{dfa(1, 1, "--", []int{-1}, []int{0}), empty(1), []api.Pair{{A: 0, B: -1}, {A: 1, B: -1}}, api.OK},
		{dfa(1, 0, "++", []int{1}, []int{0}), dfa(1, 0, "+++", []int{1}, []int{2}, []int{0}),
			[]api.Pair{{A: 0, B: 0}, {A: 0, B: 1}, {A: 0, B: 2}, {A: 1, B: 0}, {A: 1, B: 1}, {A: 1, B: 2}}, api.OK},
		{dfa(1, 0, "++", []int{1}, []int{0}), dfa(1, 1, "++", []int{1}, []int{0}), []api.Pair{{A: 0, B: 1}, {A: 1, B: 0}}, api.OK},
	} {
		l, e := automaton.Relation(c.a, c.b)
		if !slices.Equal(l, c.want) || e != c.e {
			t.Errorf("row %d: %v, %d", i, l, e)
		}
		if is := automaton.CheckRelation(c.a, c.b, c.want); is != (c.e == api.OK) {
			t.Errorf("CheckRelation, row %d: %v", i, is)
		}
	}
}

// P6.1
func TestCheckRelation(t *testing.T) {
	a, b := exampleA(), exampleB()
	two := dfa(1, 0, "++", []int{1}, []int{0})
	for i, c := range []struct {
		a, b api.DFA
		l    []api.Pair
		want bool
	}{
		{a, b, []api.Pair{{A: -1, B: 2}, {A: 0, B: 0}, {A: 1, B: 1}}, true}, {a, b, nil, false},
		{a, b, []api.Pair{{A: 0, B: 0}, {A: 1, B: 1}}, false}, {a, b, []api.Pair{{A: -1, B: 2}, {A: 0, B: 0}}, false}, {a, b, []api.Pair{{A: -1, B: 2}, {A: 1, B: 1}}, false}, {a, b, []api.Pair{{A: -1, B: 2}}, false},
		// Not in order, twice, no states, nowhere.
		{a, b, []api.Pair{{A: 0, B: 0}, {A: 1, B: 1}, {A: -1, B: 2}}, false}, {a, b, []api.Pair{{A: -1, B: 2}, {A: 1, B: 1}, {A: 0, B: 0}}, false},
		{a, b, []api.Pair{{A: -1, B: 2}, {A: 0, B: 0}, {A: 0, B: 0}, {A: 1, B: 1}}, false}, {a, b, []api.Pair{{A: -1, B: 2}, {A: 0, B: 0}, {A: 1, B: 1}, {A: 1, B: 3}}, false},
		{a, b, []api.Pair{{A: -2, B: 2}, {A: -1, B: 2}, {A: 0, B: 0}, {A: 1, B: 1}}, false}, {a, b, []api.Pair{{A: -1, B: 2}, {A: 0, B: 0}, {A: 1, B: 1}, {A: 2, B: 2}}, false},
		{a, b, []api.Pair{{A: -1, B: -1}, {A: -1, B: 2}, {A: 0, B: 0}, {A: 1, B: 1}}, false}, {a, b, []api.Pair{{A: -1, B: -2}, {A: -1, B: 2}, {A: 0, B: 0}, {A: 1, B: 1}}, false},
		{a, b, []api.Pair{{A: math.MinInt, B: 2}, {A: -1, B: 2}, {A: 0, B: 0}, {A: 1, B: 1}, {A: math.MaxInt, B: math.MaxInt}}, false},
		// More than the reached pairs, with what follows from them, or without.
		{a, b, []api.Pair{{A: -1, B: 2}, {A: 0, B: 0}, {A: 0, B: 2}, {A: 1, B: 1}}, false}, {a, a, []api.Pair{{A: 0, B: 0}, {A: 0, B: 1}, {A: 1, B: 1}}, false}, {a, a, []api.Pair{{A: 0, B: 0}, {A: 1, B: 1}}, true},
		{dfa(1, 1, "+-", []int{-1}, []int{-1}), empty(1), []api.Pair{{A: 1, B: -1}}, true}, {dfa(1, 1, "+-", []int{-1}, []int{-1}), empty(1), []api.Pair{{A: 0, B: -1}, {A: 1, B: -1}}, false},
		{dfa(1, 1, "--", []int{-1}, []int{-1}), empty(1), []api.Pair{{A: 0, B: -1}, {A: 1, B: -1}}, true},
		{two, two, []api.Pair{{A: 0, B: 0}, {A: 0, B: 1}, {A: 1, B: 0}, {A: 1, B: 1}}, true}, {two, two, []api.Pair{{A: 0, B: 0}, {A: 1, B: 0}, {A: 1, B: 1}}, false},
		{two, two, []api.Pair{{A: 0, B: 1}, {A: 1, B: 0}}, false}, {two, two, []api.Pair{{A: 0, B: 0}, {A: 1, B: 1}}, true},
		{empty(2), empty(2), nil, true}, {empty(2), empty(2), []api.Pair{}, true}, {empty(2), empty(2), []api.Pair{{A: -1, B: -1}}, false}, {empty(2), empty(2), []api.Pair{{A: 0, B: 0}}, false},
		{empty(2), empty(1), nil, false}, {empty(0), empty(0), nil, false}, {empty(9), empty(9), nil, false}, {cycle(401), cycle(401), nil, false},
		{a, cycle(2), []api.Pair{{A: 0, B: 0}, {A: 1, B: 1}}, false}, {cycle(2), cycle(2), []api.Pair{{A: 0, B: 0}, {A: 1, B: 1}}, true},
		{a, dfa(2, 0, "-+", []int{1, -1}, []int{-1, 2}), []api.Pair{{A: 0, B: 0}, {A: 1, B: 1}}, false}, {cycle(2), cycle(400), slices.Repeat([]api.Pair{{A: 0, B: 0}}, 1000000), false},
	} {
		kept := slices.Clone(c.l)
		if is := automaton.CheckRelation(c.a, c.b, c.l); is != c.want {
			t.Errorf("row %d: %v", i, is)
		}
		if !slices.Equal(c.l, kept) {
			t.Errorf("row %d: the list was changed", i)
		}
	}
}

// P6.1
func TestProduct(t *testing.T) {
	all, zeros := dfa(2, 0, "+", []int{0, 0}), dfa(2, 0, "+", []int{0, -1})
	for i, c := range []struct {
		a, b, and, or, less api.DFA
	}{
		{exampleA(), exampleB(), exampleA(), exampleA(), empty(2)}, {empty(2), empty(2), empty(2), empty(2), empty(2)}, {empty(2), all, empty(2), all, empty(2)},
		{all, empty(2), empty(2), all, all}, {zeros, all, zeros, all, empty(2)},
		{all, zeros, zeros, all, dfa(2, 0, "-+", []int{0, 1}, []int{1, 1})},
		{exampleC(), exampleA(), exampleA(), exampleC(), dfa(2, 0, "--+", []int{1, -1}, []int{2, 0}, []int{-1, -1})},
		{exampleA(), exampleC(), exampleA(), exampleC(), empty(2)},
		{chain(2, []int{0}), chain(2, []int{1}), empty(2), dfa(2, 0, "-+", []int{1, 1}, []int{-1, -1}), chain(2, []int{0})},
		{chain(2, nil), chain(2, []int{1}), empty(2), dfa(2, 0, "++", []int{-1, 1}, []int{-1, -1}), chain(2, nil)},
		{cycle(2), cycle(3), cycle(6), dfa(1, 0, "+-+++-", []int{1}, []int{2}, []int{3}, []int{4}, []int{5}, []int{0}), dfa(1, 0, "--+-+-", []int{1}, []int{2}, []int{3}, []int{4}, []int{5}, []int{0})},
		{cycle(16), cycle(400), cycle(400), cycle(16), func() api.DFA {
			d := cycle(400)
			d.Accept = make([]bool, 400)
			setEvery(d.Accept, 16)
			d.Accept[0] = false
			return d
		}()},
	} {
		a, b := cloned(c.a), cloned(c.b)
		for j, want := range []api.DFA{c.and, c.or, c.less} {
			if m, e := automaton.Product(c.a, c.b, j+1); !same(m, want) || e != api.OK {
				t.Errorf("row %d, kind %d: %v, %d", i, j+1, m, e)
			}
		}
		if !same(a, c.a) || !same(b, c.b) {
			t.Errorf("row %d: an automaton was changed", i)
		}
	}
}

func setEvery(accept []bool, n int) {
	for i := 0; i < len(accept); i += n {
		accept[i] = true
	}
}

// P6.1: a product has at most 400 states; how many pairs it goes through does not matter.
func TestProductSizes(t *testing.T) {
	zeros, ones := slices.Repeat([]int{0}, 200), slices.Repeat([]int{1}, 201)
	for i, c := range []struct {
		a, b       api.DFA
		kind, size int
	}{
		{cycle(16), cycle(25), api.And, 400}, {cycle(16), cycle(25), api.Or, 400}, {cycle(16), cycle(25), api.Less, 400}, {cycle(3), cycle(134), api.And, 0}, {cycle(3), cycle(134), api.Or, 0},
		{cycle(3), cycle(134), api.Less, 0}, {cycle(399), cycle(400), api.And, 0}, {cycle(399), cycle(400), api.Or, 0}, {cycle(399), cycle(400), api.Less, 0},
		{chain(2, zeros), chain(2, ones[:200]), api.Or, 400}, {chain(2, zeros), chain(2, ones), api.Or, 0}, {chain(2, zeros), chain(2, ones), api.And, -1}, {chain(2, zeros), chain(2, ones), api.Less, 201},
		{chain(2, ones), chain(2, zeros), api.Or, 0}, {chain(1, slices.Repeat([]int{0}, 399)), cycle(400), api.And, -1}, {chain(1, slices.Repeat([]int{0}, 399)), cycle(399), api.And, 400},
		{chain(1, slices.Repeat([]int{0}, 399)), cycle(400), api.Less, 400}, {chain(1, slices.Repeat([]int{0}, 399)), cycle(400), api.Or, 0}, {allAccepting(399), allAccepting(400), api.Or, 1},
		{allAccepting(399), allAccepting(400), api.And, 1}, {allAccepting(399), allAccepting(400), api.Less, -1}, {allAccepting(400), cycle(400), api.Less, 400}, {cycle(400), allAccepting(399), api.And, 400},
	} {
		want := api.OK
		if c.size == 0 {
			want = api.ErrTooLarge
		}
		m, e := automaton.Product(c.a, c.b, c.kind)
		if len(m.Next) != max(0, c.size) || e != want || automaton.Valid(m) != api.OK != isZero(m) {
			t.Errorf("row %d: %d states, %d", i, len(m.Next), e)
		}
	}
}

// allAccepting returns a cycle all of whose states accept.
func allAccepting(n int) api.DFA {
	a := cycle(n)
	setEvery(a.Accept, 1)
	return a
}

// P6.1: the errors of all functions, in their order.
func TestErrors(t *testing.T) {
	good := exampleA()
	for i, c := range []struct {
		a, b api.DFA
		kind int
		want api.Errno
	}{
		{good, good, api.And, api.OK}, {good, good, 0, api.ErrRange}, {good, good, 4, api.ErrRange}, {good, good, -1, api.ErrRange}, {good, good, math.MaxInt, api.ErrRange}, {good, good, math.MinInt, api.ErrRange},
		{good, cycle(3), 0, api.ErrInvalid}, {good, cycle(3), api.Or, api.ErrInvalid}, {good, empty(0), 7, api.ErrInvalid}, {empty(0), good, 7, api.ErrInvalid}, {empty(9), empty(9), api.And, api.ErrInvalid},
		{empty(2), empty(3), api.And, api.ErrInvalid}, {cycle(399), cycle(400), 0, api.ErrRange}, {cycle(399), cycle(400), 4, api.ErrRange}, {cycle(399), cycle(401), api.And, api.ErrInvalid},
	} {
		if m, e := automaton.Product(c.a, c.b, c.kind); e != c.want || isZero(m) == (e == api.OK) {
			t.Errorf("row %d: %v, %d", i, m, e)
		}
	}
	for i, c := range []struct {
		a    api.DFA
		n    int
		want api.Errno
	}{
		{good, -1, api.ErrRange}, {good, 1001, api.ErrRange}, {good, math.MaxInt, api.ErrRange}, {good, math.MinInt, api.ErrRange}, {empty(1), 1001, api.ErrRange}, {empty(1), -1, api.ErrRange},
		{empty(0), -1, api.ErrInvalid}, {cycle(401), 0, api.ErrInvalid}, {dfa(2, 0, "+", []int{0, 0}), 1001, api.ErrRange}, {dfa(2, 0, "+", []int{0, 0}), 1000, api.ErrTooLarge},
	} {
		if n, e := automaton.Count(c.a, c.n); n != 0 || e != c.want {
			t.Errorf("Count, row %d: %d, %d", i, n, e)
		}
	}
}

// P6.1, P1: what is not valid is an error of all functions, on either side, whatever else is wrong.
func TestInvalid(t *testing.T) {
	for i, a := range invalidOnes() {
		for _, word := range [][]int{nil, {0}, {1, -1}, {math.MaxInt}} {
			if state := automaton.Run(a, word); state != -1 || automaton.Accepts(a, word) {
				t.Errorf("%d: Run: %d", i, state)
			}
		}
		m, e := automaton.Minimal(a)
		word, e1 := automaton.Shortest(a)
		if !isZero(m) || e != api.ErrInvalid || word != nil || e1 != api.ErrInvalid {
			t.Errorf("%d: %d, %d", i, e, e1)
		}
		for _, n := range []int{-1, 0, 1, 1000, 1001} {
			if count, e := automaton.Count(a, n); count != 0 || e != api.ErrInvalid {
				t.Errorf("%d: Count: %d, %d", i, count, e)
			}
		}
		for _, b := range append(validOnes(), invalidOnes()...) {
			checkInvalidPair(t, a, b)
			checkInvalidPair(t, b, a)
		}
	}
	for _, a := range validOnes() {
		for _, b := range validOnes() {
			if a.Letters != b.Letters {
				checkInvalidPair(t, a, b)
			}
		}
	}
}

func checkInvalidPair(t *testing.T, a, b api.DFA) {
	t.Helper()
	is, e := automaton.Same(a, b)
	word, e1 := automaton.Difference(a, b)
	l, e2 := automaton.Relation(a, b)
	if is || word != nil || l != nil || e != api.ErrInvalid || e1 != api.ErrInvalid || e2 != api.ErrInvalid {
		t.Errorf("%v, %v: %d, %d, %d", a, b, e, e1, e2)
	}
	for _, pairs := range [][]api.Pair{nil, {{A: 0, B: 0}}, {{A: -1, B: 0}, {A: 0, B: -1}}, {{A: -5, B: math.MaxInt}}} {
		if automaton.CheckRelation(a, b, pairs) {
			t.Errorf("%v, %v: a relation", a, b)
		}
	}
	for _, kind := range []int{math.MinInt, 0, api.And, api.Or, api.Less, 4} {
		if m, e := automaton.Product(a, b, kind); !isZero(m) || e != api.ErrInvalid {
			t.Errorf("%v, %v, %d: %v, %d", a, b, kind, m, e)
		}
	}
}

// P6.1
func TestShortest(t *testing.T) {
	for i, c := range []struct {
		a    api.DFA
		want []int
		e    api.Errno
	}{
		{exampleA(), []int{0}, api.OK}, {empty(2), nil, api.ErrNone}, {dfa(2, 0, "-", []int{0, 0}), nil, api.ErrNone}, {dfa(1, 0, "-+", []int{0}, []int{0}), nil, api.ErrNone},
		{dfa(1, 0, "+", []int{-1}), nil, api.OK}, {dfa(1, 1, "-+", []int{0}, []int{0}), nil, api.OK}, {chain(5, []int{4, 0, 3, 4, 1}), []int{4, 0, 3, 4, 1}, api.OK},
		{chain(8, slices.Repeat([]int{7}, 399)), slices.Repeat([]int{7}, 399), api.OK},
		// The short way by the greater letter, and of two short ways the first one.
		{dfa(2, 0, "--+", []int{1, 2}, []int{2, 2}, []int{-1, -1}), []int{1}, api.OK}, {dfa(2, 0, "---+", []int{1, 2}, []int{-1, 3}, []int{3, -1}, []int{-1, -1}), []int{0, 1}, api.OK},
		{dfa(2, 2, "+---", []int{3, 3}, []int{0, 0}, []int{3, 1}, []int{3, -1}), []int{1, 0}, api.OK},
	} {
		if word, e := automaton.Shortest(c.a); !slices.Equal(word, c.want) || e != c.e {
			t.Errorf("row %d: %v, %d", i, word, e)
		}
	}
}

// P6.1: only the words that are counted must not be too many.
func TestCount(t *testing.T) {
	all2, all8 := dfa(2, 0, "+", []int{0, 0}), dfa(8, 0, "+", make([]int, 8))
	evens8 := dfa(8, 0, "+-", slices.Repeat([]int{1}, 8), slices.Repeat([]int{0}, 8))
	lone := dfa(8, 0, "+-", append([]int{0}, slices.Repeat([]int{1}, 7)...), slices.Repeat([]int{1}, 8))
	oneMore := dfa(2, 0, "-++", []int{1, 2}, []int{1, 1}, []int{2, -1})
	for i, c := range []struct {
		a    api.DFA
		n    int
		want int64
		e    api.Errno
	}{
		{exampleA(), 3, 1, api.OK}, {exampleA(), 2, 0, api.OK}, {exampleA(), 0, 0, api.OK}, {exampleA(), 1, 1, api.OK}, {exampleA(), 999, 1, api.OK}, {exampleA(), 1000, 0, api.OK},
		{exampleC(), 2, 1, api.OK}, {exampleC(), 3, 1, api.OK}, {empty(4), 0, 0, api.OK}, {empty(4), 1000, 0, api.OK}, {all2, 0, 1, api.OK}, {all2, 1, 2, api.OK}, {all2, 10, 1024, api.OK},
		{all2, 61, 1 << 61, api.OK}, {all2, 62, 1 << 62, api.OK}, {all2, 63, 0, api.ErrTooLarge}, {all2, 64, 0, api.ErrTooLarge}, {all2, 65, 0, api.ErrTooLarge}, {all2, 1000, 0, api.ErrTooLarge},
		{all8, 20, 1 << 60, api.OK}, {all8, 21, 0, api.ErrTooLarge}, {all8, 22, 0, api.ErrTooLarge}, {all8, 1000, 0, api.ErrTooLarge}, {evens8, 20, 1 << 60, api.OK}, {evens8, 999, 0, api.OK}, {evens8, 1000, 0, api.ErrTooLarge},
		{lone, 0, 1, api.OK}, {lone, 1000, 1, api.OK}, {oneMore, 62, 1<<61 + 1, api.OK}, {oneMore, 63, 0, api.ErrTooLarge}, {dfa(1, 1, "-+", []int{0}, []int{0}), 1, 0, api.OK},
		{cycle(400), 800, 1, api.OK}, {cycle(400), 801, 0, api.OK}, {dfa(8, 1, "+-", make([]int, 8), []int{-1, -1, -1, -1, -1, -1, -1, -1}), 1000, 0, api.OK},
	} {
		if n, e := automaton.Count(c.a, c.n); n != c.want || e != c.e {
			t.Errorf("row %d: %d, %d", i, n, e)
		}
	}
}

// A result is new memory: changing it changes no argument, no later result and no other part of it.
func TestResultsAreNew(t *testing.T) {
	a := dfa(2, 0, "-+", []int{1, 1}, []int{0, 0})
	kept := cloned(a)
	for range 2 {
		m, _ := automaton.Minimal(a)
		p, _ := automaton.Product(a, a, api.Or)
		l, _ := automaton.Relation(a, a)
		word, _ := automaton.Shortest(a)
		if !same(m, kept) || !same(p, kept) || !slices.Equal(l, []api.Pair{{A: 0, B: 0}, {A: 1, B: 1}}) || !slices.Equal(word, []int{0}) || !same(a, kept) {
			t.Fatalf("%v, %v, %v, %v, %v", m, p, l, word, a)
		}
		for _, d := range []api.DFA{m, p} {
			d.Next[0] = append(d.Next[0], 7)
			if !slices.Equal(d.Next[1], []int{0, 0}) {
				t.Fatalf("%v", d)
			}
			d.Next[0][0], d.Next[1][0], d.Accept[0] = 9, 9, true
		}
		l[0].A, word[0] = 9, 9
	}
}
