package automaton_test

import (
	"cmp"
	"math/big"
	"math/bits"
	"math/rand"
	"slices"
	"strconv"
	"testing"

	"anceps/api"
	"anceps/automaton"
)

// words returns all words of at most the given length, in order.
func words(letters, most int) [][]int {
	all := [][]int{nil}
	for from := 0; most > 0; most-- {
		to := len(all)
		for _, w := range all[from:to] {
			for letter := range letters {
				all = append(all, append(slices.Clone(w), letter))
			}
		}
		from = to
	}
	return all
}

// lead returns where a word leads from a state, as the chapter says.
func lead(a api.DFA, state int, word []int) int {
	for _, letter := range word {
		if state == -1 || letter < 0 || letter >= a.Letters {
			return -1
		}
		state = a.Next[state][letter]
	}
	return state
}

func accepting(a api.DFA, state int) bool {
	return state != -1 && a.Accept[state]
}

// mask has a bit for each of at most 128 words: whether it is accepted.
type mask [2]uint64

func maskOf(a api.DFA, all [][]int) mask {
	var m mask
	for i, w := range all {
		if accepting(a, lead(a, a.Start, w)) {
			m[i/64] |= 1 << (i % 64)
		}
	}
	return m
}

// first returns the number of the first word of a mask, -1 if it is empty.
func (m mask) first() int {
	if m[0] != 0 {
		return bits.TrailingZeros64(m[0])
	}
	if m[1] != 0 {
		return 64 + bits.TrailingZeros64(m[1])
	}
	return -1
}

func (m mask) has(i int) bool {
	return m[i/64]>>(i%64)&1 == 1
}

// combined returns the words of a product.
func combined(x, y mask, kind int) mask {
	switch kind {
	case api.And:
		return mask{x[0] & y[0], x[1] & y[1]}
	case api.Or:
		return mask{x[0] | y[0], x[1] | y[1]}
	}
	return mask{x[0] &^ y[0], x[1] &^ y[1]}
}

// every returns all valid automata with so many letters and states.
func every(letters, states int) []api.DFA {
	if states == 0 {
		return []api.DFA{empty(letters)}
	}
	ways := 1
	for range letters * states {
		ways *= states + 1
	}
	var all []api.DFA
	for way := range ways << states * states {
		a := api.DFA{Letters: letters, Start: way % states}
		rest := way / states
		for range states {
			a.Accept = append(a.Accept, rest%2 == 1)
			rest /= 2
		}
		for range states {
			row := make([]int, letters)
			for letter := range row {
				row[letter] = rest%(states+1) - 1
				rest /= states + 1
			}
			a.Next = append(a.Next, row)
		}
		all = append(all, a)
	}
	return all
}

// upTo returns all valid automata with so many letters and at most so many states.
func upTo(letters, states int) []api.DFA {
	var all []api.DFA
	for n := range states + 1 {
		all = append(all, every(letters, n)...)
	}
	return all
}

// sampled returns any automaton with so many letters and states, of which few or many lead nowhere or accept.
func sampled(r *rand.Rand, letters, states int) api.DFA {
	a := api.DFA{Letters: letters, Start: r.Intn(states)}
	gaps, accepts := r.Intn(3), 1+r.Intn(4)
	for range states {
		row := make([]int, letters)
		for letter := range row {
			row[letter] = r.Intn(states)
			if r.Intn(4) < gaps {
				row[letter] = -1
			}
		}
		a.Next = append(a.Next, row)
		a.Accept = append(a.Accept, r.Intn(5) < accepts)
	}
	return a
}

// copied returns an automaton with the same language and more states: copies of its states, not all of which are reached, and one that leads nowhere.
func copied(r *rand.Rand, a api.DFA, states int) api.DFA {
	if len(a.Next) == 0 {
		d := sampled(r, a.Letters, states)
		clear(d.Accept)
		return d
	}
	of := r.Perm(states - 1)
	for i := range of {
		of[i] %= len(a.Next)
	}
	of = append(of, -1)
	b := api.DFA{Letters: a.Letters}
	copies := func(state int) int {
		var l []int
		for i, o := range of {
			if o == state {
				l = append(l, i)
			}
		}
		if state == -1 && r.Intn(2) == 0 || len(l) == 0 {
			return -1
		}
		return l[r.Intn(len(l))]
	}
	for _, o := range of {
		row := make([]int, a.Letters)
		for letter := range row {
			row[letter] = copies(lead(a, o, []int{letter}))
		}
		b.Next = append(b.Next, row)
		b.Accept = append(b.Accept, accepting(a, o))
	}
	b.Start = copies(a.Start)
	return b
}

// checkShape reports an automaton that is not valid or not the minimal one of its language: by the numbers of its states, by what leads to a state that accepts, and by pairs of states that words tell apart.
func checkShape(t *testing.T, m api.DFA) {
	t.Helper()
	if automaton.Valid(m) != api.OK || len(m.Next) > 0 && m.Start != 0 {
		t.Fatalf("%v", m)
	}
	found := min(1, len(m.Next))
	for state, row := range m.Next {
		if state >= found {
			t.Fatalf("%v: the state %d is not reached", m, state)
		}
		for _, to := range row {
			if to > found {
				t.Fatalf("%v: the state %d stands too late", m, to)
			}
			found = max(found, to+1)
		}
	}
	apart := apartStates(m)
	for a := range m.Next {
		for b := range a {
			if !apart[a][b] {
				t.Fatalf("%v: the states %d and %d are one", m, a, b)
			}
		}
		if !apart[a][len(m.Next)] {
			t.Fatalf("%v: the state %d leads nowhere", m, a)
		}
	}
}

// apartStates returns which states (the last one stands for none) words tell apart, by going back from pairs of which one state accepts.
func apartStates(m api.DFA) [][]bool {
	none := len(m.Next)
	apart := make([][]bool, none+1)
	for a := range apart {
		apart[a] = make([]bool, none+1)
	}
	before := make([][][]int, m.Letters) // by letter and state
	for letter := range before {
		before[letter] = make([][]int, none+1)
		for state, row := range m.Next {
			to := row[letter]
			if to == -1 {
				to = none
			}
			before[letter][to] = append(before[letter][to], state)
		}
		before[letter][none] = append(before[letter][none], none)
	}
	var open []api.Pair
	add := func(a, b int) {
		if !apart[a][b] {
			apart[a][b], apart[b][a] = true, true
			open = append(open, api.Pair{A: a, B: b})
		}
	}
	for a, accepts := range m.Accept {
		for b := range none + 1 {
			if accepts && (b == none || !m.Accept[b]) {
				add(a, b)
			}
		}
	}
	for len(open) > 0 {
		p := open[len(open)-1]
		open = open[:len(open)-1]
		for _, l := range before {
			for _, a := range l[p.A] {
				for _, b := range l[p.B] {
					add(a, b)
				}
			}
		}
	}
	return apart
}

func text(a api.DFA) string {
	s := strconv.Itoa(a.Letters) + " " + strconv.Itoa(a.Start)
	for state, row := range a.Next {
		s += ";" + strconv.FormatBool(a.Accept[state])
		for _, to := range row {
			s += " " + strconv.Itoa(to)
		}
	}
	return s
}

// P6.1, P6.2: the minimal automata of all small automata, their runs, shortest words and counts.
func TestAllSmallOnes(t *testing.T) {
	for _, c := range []struct{ letters, states, most int }{{1, 4, 8}, {2, 2, 6}, {3, 1, 3}, {3, 2, 4}, {2, 3, 6}} {
		all := words(c.letters, c.most)
		forms := map[mask]string{}
		automata := map[string]bool{}
		for i, a := range upTo(c.letters, c.states) {
			if c.states == 3 && i%7 != 0 {
				continue
			}
			m := maskOf(a, all)
			d, e := automaton.Minimal(a)
			if e != api.OK || d.Letters != c.letters || len(d.Next) > len(a.Next) || maskOf(d, all) != m {
				t.Fatalf("%v: %v, %d", a, d, e)
			}
			form := text(d)
			if forms[m] == "" {
				if automata[form] {
					t.Fatalf("%v: another language has %v", a, d)
				}
				forms[m], automata[form] = form, true
				checkShape(t, d)
				if again, e := automaton.Minimal(d); !same(again, d) || e != api.OK {
					t.Fatalf("%v is not its own minimal automaton, but %v, %d", d, again, e)
				}
			} else if forms[m] != form {
				t.Fatalf("%v: %s instead of %s", a, form, forms[m])
			}
			checkWords(t, a, m, all)
		}
		if len(forms) < 5 {
			t.Errorf("only %d languages", len(forms))
		}
	}
}

// checkWords compares Shortest, Count, Run and Accepts with what words do one by one.
func checkWords(t *testing.T, a api.DFA, m mask, all [][]int) {
	t.Helper()
	word, e := automaton.Shortest(a)
	if i := m.first(); i < 0 && (word != nil || e != api.ErrNone) || i >= 0 && (!slices.Equal(word, all[i]) || e != api.OK) {
		t.Fatalf("%v: %v, %d", a, word, e)
	}
	counts := make([]int64, len(all[len(all)-1])+1)
	for i, w := range all {
		if m.has(i) {
			counts[len(w)]++
		}
		if i%5 == len(a.Next)%5 && (automaton.Run(a, w) != lead(a, a.Start, w) || automaton.Accepts(a, w) != m.has(i)) {
			t.Fatalf("%v, %v: %d", a, w, automaton.Run(a, w))
		}
	}
	for length, want := range counts {
		if n, e := automaton.Count(a, length); n != want || e != api.OK {
			t.Fatalf("%v, %d: %d, %d", a, length, n, e)
		}
	}
}

// P6.1, P6.2: pairs of small automata.
func TestSmallPairs(t *testing.T) {
	for _, c := range []struct{ letters, states, most, step int }{{1, 2, 8, 1}, {1, 3, 8, 101}, {2, 2, 5, 41}, {3, 2, 4, 30011}, {2, 3, 6, 600011}} {
		all, automata := words(c.letters, c.most), upTo(c.letters, c.states)
		masks := make([]mask, len(automata))
		for i, a := range automata {
			masks[i] = maskOf(a, all)
		}
		equal, rounds := 0, 0
		for n := 0; n < len(automata)*len(automata) && rounds < 30000; n += c.step {
			rounds++
			i, j := n/len(automata), n%len(automata)
			if masks[i] == masks[j] {
				equal++
			}
			checkPair(t, automata[i], automata[j], masks[i], masks[j], all)
		}
		if equal < 10 || rounds-equal < 100 {
			t.Errorf("%v: %d equal ones of %d", c, equal, rounds)
		}
	}
}

func checkPair(t *testing.T, a, b api.DFA, x, y mask, all [][]int) {
	t.Helper()
	is, e := automaton.Same(a, b)
	if is != (x == y) || e != api.OK {
		t.Fatalf("%v, %v: %v, %d", a, b, is, e)
	}
	c, _ := automaton.Minimal(a)
	d, _ := automaton.Minimal(b)
	if same(c, d) != (x == y) {
		t.Fatalf("%v, %v: %v, %v", a, b, c, d)
	}
	checkDifference(t, a, b, x, y, all)
	checkRelation(t, a, b, x == y)
	for _, kind := range []int{api.And, api.Or, api.Less} {
		p, e := automaton.Product(a, b, kind)
		if e != api.OK || maskOf(p, all) != combined(x, y, kind) {
			t.Fatalf("%v, %v, %d: %v, %d", a, b, kind, p, e)
		}
		checkShape(t, p)
	}
	checkProducts(t, a, b)
}

func checkDifference(t *testing.T, a, b api.DFA, x, y mask, all [][]int) {
	t.Helper()
	word, e := automaton.Difference(a, b)
	i := mask{x[0] ^ y[0], x[1] ^ y[1]}.first()
	if i < 0 && (word != nil || e != api.ErrNone) || i >= 0 && (!slices.Equal(word, all[i]) || e != api.OK) {
		t.Fatalf("%v, %v: %v, %d", a, b, word, e)
	}
}

// pairsOf returns the pairs to which words lead, by adding what follows until nothing is new.
func pairsOf(a, b api.DFA) []api.Pair {
	known := map[api.Pair]bool{}
	open := []api.Pair{{A: a.Start, B: b.Start}}
	for len(open) > 0 {
		p := open[0]
		open = open[1:]
		if known[p] || p.A == -1 && p.B == -1 {
			continue
		}
		known[p] = true
		for letter := range a.Letters {
			open = append(open, api.Pair{A: lead(a, p.A, []int{letter}), B: lead(b, p.B, []int{letter})})
		}
	}
	var l []api.Pair
	for p := range known {
		l = append(l, p)
	}
	slices.SortFunc(l, comparePairs)
	return l
}

func comparePairs(p, q api.Pair) int {
	return cmp.Or(cmp.Compare(p.A, q.A), cmp.Compare(p.B, q.B))
}

// checkRelation reports a wrong Relation. Without one of its pairs it proves nothing, because each of them is reached.
func checkRelation(t *testing.T, a, b api.DFA, equal bool) {
	t.Helper()
	want := pairsOf(a, b)
	l, e := automaton.Relation(a, b)
	if !equal && (l != nil || e != api.ErrConflict) || equal && (!slices.Equal(l, want) || e != api.OK) {
		t.Fatalf("%v, %v: %v, %d", a, b, l, e)
	}
	if automaton.CheckRelation(a, b, want) != equal {
		t.Fatalf("%v, %v: CheckRelation of %v", a, b, want)
	}
	for i := range want {
		if automaton.CheckRelation(a, b, slices.Delete(slices.Clone(want), i, i+1)) {
			t.Fatalf("%v, %v: CheckRelation of %v without %v", a, b, want, want[i])
		}
	}
}

// checkProducts reports products that do not hang together.
func checkProducts(t *testing.T, a, b api.DFA) {
	t.Helper()
	and, _ := automaton.Product(a, b, api.And)
	or, _ := automaton.Product(a, b, api.Or)
	less, _ := automaton.Product(a, b, api.Less)
	back, _ := automaton.Product(b, a, api.Less)
	c, e := automaton.Minimal(a)
	if sum, err := automaton.Product(and, less, api.Or); !same(sum, c) || err != api.OK || e != api.OK {
		t.Fatalf("%v, %v: together %v, %d", a, b, sum, err)
	}
	if sum, err := automaton.Product(less, b, api.Or); !same(sum, or) || err != api.OK {
		t.Fatalf("%v, %v: at least one %v, %d", a, b, sum, err)
	}
	other, e1 := automaton.Product(b, a, api.And)
	another, e2 := automaton.Product(b, a, api.Or)
	if !same(other, and) || !same(another, or) || e1 != api.OK || e2 != api.OK {
		t.Fatalf("%v, %v: %v, %v in the other order", a, b, other, another)
	}
	x, e3 := automaton.Shortest(less)
	y, e4 := automaton.Shortest(back)
	if word, e := automaton.Difference(a, b); e == api.OK && !slices.Equal(word, firstOf(x, e3, y, e4)) || (e == api.ErrNone) != (e3 == api.ErrNone && e4 == api.ErrNone) {
		t.Fatalf("%v, %v: %v, %d, but %v and %v", a, b, word, e, x, y)
	}
}

// firstOf returns the first one of two words that need not be there.
func firstOf(x []int, e1 api.Errno, y []int, e2 api.Errno) []int {
	if e1 != api.OK || e2 == api.OK && cmp.Or(cmp.Compare(len(x), len(y)), slices.Compare(x, y)) > 0 {
		return y
	}
	return x
}

// P6.1, P6.2: what CheckRelation accepts is what the chapter calls a proof, for all lists of pairs of small automata.
func TestAllRelations(t *testing.T) {
	automata, accepted := upTo(1, 2), 0
	all := words(1, 8)
	for i, a := range automata {
		for j, b := range automata {
			if (i+j)%3 != 0 {
				continue
			}
			pairs := pairsBetween(a, b)
			for set := range 1 << len(pairs) {
				var l []api.Pair
				for k, p := range pairs {
					if set>>k&1 == 1 {
						l = append(l, p)
					}
				}
				want := isProof(a, b, l)
				if automaton.CheckRelation(a, b, l) != want {
					t.Fatalf("%v, %v: CheckRelation of %v", a, b, l)
				}
				if want {
					accepted++
					if maskOf(a, all) != maskOf(b, all) {
						t.Fatalf("%v, %v: a proof %v", a, b, l)
					}
				}
			}
		}
	}
	if accepted < 1000 {
		t.Errorf("only %d accepted", accepted)
	}
}

// pairsBetween returns all pairs of states, and of a state and -1, in order.
func pairsBetween(a, b api.DFA) []api.Pair {
	var l []api.Pair
	for x := -1; x < len(a.Next); x++ {
		for y := -1; y < len(b.Next); y++ {
			if x != -1 || y != -1 {
				l = append(l, api.Pair{A: x, B: y})
			}
		}
	}
	return l
}

func isProof(a, b api.DFA, l []api.Pair) bool {
	in := func(p api.Pair) bool { return p.A == -1 && p.B == -1 || slices.Contains(l, p) }
	for _, p := range l {
		if accepting(a, p.A) != accepting(b, p.B) {
			return false
		}
		for letter := range a.Letters {
			if !in(api.Pair{A: lead(a, p.A, []int{letter}), B: lead(b, p.B, []int{letter})}) {
				return false
			}
		}
	}
	return in(api.Pair{A: a.Start, B: b.Start})
}

// P6.1, P6.2: automata of all sizes, and other ones of the same languages.
func TestSampledOnes(t *testing.T) {
	r := rand.New(rand.NewSource(6))
	for i := range 600 {
		letters, states := 1+r.Intn(8), 1+r.Intn(12)
		if i%60 == 0 {
			states = 100 + r.Intn(201)
		}
		a := sampled(r, letters, states)
		m, e := automaton.Minimal(a)
		if e != api.OK {
			t.Fatalf("round %d: %d", i, e)
		}
		checkShape(t, m)
		b := copied(r, m, min(400, len(m.Next)+1+r.Intn(2*len(m.Next)+3)))
		for _, c := range []api.DFA{a, m, b} {
			if is, e := automaton.Same(a, c); !is || e != api.OK {
				t.Fatalf("round %d: %v, %d", i, is, e)
			}
			if d, e := automaton.Minimal(c); !same(d, m) || e != api.OK {
				t.Fatalf("round %d: %d states, %d", i, len(d.Next), e)
			}
			if l, e := automaton.Relation(a, c); !slices.Equal(l, pairsOf(a, c)) || e != api.OK || !automaton.CheckRelation(a, c, l) {
				t.Fatalf("round %d: %d pairs, %d", i, len(l), e)
			}
		}
		checkCounts(t, a, b)
		if d := sampled(r, letters, 1+r.Intn(12)); states <= 12 {
			checkProducts(t, a, d)
			checkProducts(t, d, b)
			checkFirst(t, a, d)
		}
	}
}

// checkCounts compares Count with numbers of any size, which are counted forwards.
func checkCounts(t *testing.T, a, b api.DFA) {
	t.Helper()
	ways := make([]big.Int, len(a.Next))
	ways[a.Start].SetInt64(1)
	limit := new(big.Int).Lsh(big.NewInt(1), 62)
	for n := range 80 {
		var sum big.Int
		further := make([]big.Int, len(a.Next))
		for state, row := range a.Next {
			if a.Accept[state] {
				sum.Add(&sum, &ways[state])
			}
			for _, to := range row {
				if to != -1 {
					further[to].Add(&further[to], &ways[state])
				}
			}
		}
		want, err := sum.Int64(), api.OK
		if sum.Cmp(limit) > 0 {
			want, err = 0, api.ErrTooLarge
		}
		for _, d := range []api.DFA{a, b} {
			if count, e := automaton.Count(d, n); count != want || e != err {
				t.Fatalf("%v, %d: %d, %d instead of %d", d, n, count, e, want)
			}
		}
		ways = further
	}
}

// checkFirst reports words of Shortest and Difference ahead of which another one would do: one of fewer letters, or a lesser one of as many.
func checkFirst(t *testing.T, a, b api.DFA) {
	t.Helper()
	shortest, e := automaton.Shortest(a)
	difference, err := automaton.Difference(a, b)
	for _, w := range words(a.Letters, 3) {
		if accepting(a, lead(a, a.Start, w)) && (e != api.OK || isAhead(w, shortest)) {
			t.Fatalf("%v: %v, %d", a, shortest, e)
		}
		if accepting(a, lead(a, a.Start, w)) != accepting(b, lead(b, b.Start, w)) && (err != api.OK || isAhead(w, difference)) {
			t.Fatalf("%v, %v: %v, %d", a, b, difference, err)
		}
	}
}

func isAhead(w, v []int) bool {
	return cmp.Or(cmp.Compare(len(w), len(v)), slices.Compare(w, v)) < 0
}

// P1: the largest automata, whose pairs of states are all reached, are no trouble.
func TestLargestPairs(t *testing.T) {
	r := rand.New(rand.NewSource(1))
	a, b := sampled(r, 8, 400), sampled(r, 8, 400)
	for state := range 400 {
		for letter := range 8 {
			a.Next[state][letter], b.Next[state][letter] = (state+letter)%400, (state+letter*letter+letter/4)%400
		}
		a.Accept[state], b.Accept[state] = state == 7, state%2 == 0
	}
	for _, kind := range []int{api.And, api.Or, api.Less} {
		if m, e := automaton.Product(a, b, kind); !isZero(m) || e != api.ErrTooLarge {
			t.Errorf("kind %d: %d states, %d", kind, len(m.Next), e)
		}
	}
	if l := pairsOf(a, b); len(l) < 100000 {
		t.Errorf("only %d pairs", len(l))
	}
	clear(a.Accept)
	clear(b.Accept)
	l, e := automaton.Relation(a, b)
	if len(l) < 100000 || e != api.OK || !automaton.CheckRelation(a, b, l) || automaton.CheckRelation(a, b, l[1:]) {
		t.Errorf("%d pairs, %d", len(l), e)
	}
	if m, e := automaton.Product(a, b, api.Or); !same(m, empty(8)) || e != api.OK {
		t.Errorf("%v, %d", m, e)
	}
}
