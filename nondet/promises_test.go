package nondet_test

import (
	"math"
	"math/rand"
	"slices"
	"strings"
	"testing"

	"anceps/api"
	"anceps/automaton"
	"anceps/nondet"
)

// wordList holds all words of at most some length, in order, and finds them again.
type wordList struct {
	words [][]int
	at    map[string]int
}

func key(word []int) string {
	var b strings.Builder
	for _, letter := range word {
		b.WriteByte(byte('0' + letter))
	}
	return b.String()
}

func words(letters, most int) wordList {
	l := wordList{words: [][]int{nil}, at: map[string]int{"": 0}}
	for i := 0; len(l.words[i]) < most; i++ {
		for letter := range letters {
			word := append(slices.Clone(l.words[i]), letter)
			l.at[key(word)] = len(l.words)
			l.words = append(l.words, word)
		}
	}
	return l
}

func (l wordList) find(word []int) int {
	return l.at[key(word)]
}

// closed adds to a set of at most 64 states, a bit for each, what edges that read nothing lead to, by trying all edges until nothing is new.
func closed(n api.NFA, set uint64) uint64 {
	for {
		more := set
		for _, edge := range n.Edges {
			if edge.Letter == -1 && more>>edge.From&1 == 1 {
				more |= 1 << edge.To
			}
		}
		if more == set {
			return set
		}
		set = more
	}
}

func bitsOf(l []int) uint64 {
	var set uint64
	for _, state := range l {
		set |= 1 << state
	}
	return set
}

func statesOf(set uint64) []int {
	var l []int
	for state := range 64 {
		if set>>state&1 == 1 {
			l = append(l, state)
		}
	}
	return l
}

// follow returns where a letter leads, as the chapter says.
func follow(n api.NFA, set uint64, letter int) uint64 {
	set = closed(n, set)
	var next uint64
	for _, edge := range n.Edges {
		if edge.Letter == letter && set>>edge.From&1 == 1 {
			next |= 1 << edge.To
		}
	}
	return next
}

func accepts(n api.NFA, word []int) bool {
	set := bitsOf(n.Starts)
	for _, letter := range word {
		set = follow(n, set, letter)
	}
	return closed(n, set)&bitsOf(n.Accept) != 0
}

// language returns for each word whether it is accepted.
func language(n api.NFA, l wordList) []bool {
	sets := make([]uint64, len(l.words))
	is := make([]bool, len(l.words))
	for i, word := range l.words {
		if i == 0 {
			sets[0] = bitsOf(n.Starts)
		} else {
			sets[i] = follow(n, sets[l.find(word[:len(word)-1])], word[len(word)-1])
		}
		is[i] = closed(n, sets[i])&bitsOf(n.Accept) != 0
	}
	return is
}

// reachedSets returns an automaton of the reached sets, and whether there are at most 400.
func reachedSets(n api.NFA) (api.DFA, bool) {
	sets := []uint64{closed(n, bitsOf(n.Starts))}
	d := api.DFA{Letters: n.Letters}
	if sets[0] == 0 {
		d.Start = -1
		return d, true
	}
	for i := 0; i < len(sets) && len(sets) <= 400; i++ {
		var row []int
		for letter := range n.Letters {
			set := closed(n, follow(n, sets[i], letter))
			if set != 0 && !slices.Contains(sets, set) {
				sets = append(sets, set)
			}
			row = append(row, slices.Index(sets, set))
		}
		d.Next = append(d.Next, row)
		d.Accept = append(d.Accept, sets[i]&bitsOf(n.Accept) != 0)
	}
	return d, len(sets) <= 400
}

// minimal returns what Determine is to return.
func minimal(t *testing.T, n api.NFA) (api.DFA, api.Errno) {
	t.Helper()
	d, few := reachedSets(n)
	if !few {
		return api.DFA{}, api.ErrTooLarge
	}
	m, e := automaton.Minimal(d)
	if e != api.OK {
		t.Fatalf("%v: %v, %d", n, d, e)
	}
	return m, api.OK
}

// numbered returns the automaton with a number among all with so many letters and states: each bit of the number is an edge, a start or a state that accepts.
func numbered(letters, states int, number uint64) api.NFA {
	n := api.NFA{Letters: letters, States: states}
	next := func() bool {
		bit := number & 1
		number >>= 1
		return bit == 1
	}
	for from := range states {
		for letter := -1; letter < letters; letter++ {
			for to := range states {
				if next() {
					n.Edges = append(n.Edges, api.Edge{From: from, Letter: letter, To: to})
				}
			}
		}
	}
	for state := range states {
		if next() {
			n.Starts = append(n.Starts, state)
		}
		if next() {
			n.Accept = append(n.Accept, state)
		}
	}
	return n
}

func howMany(letters, states int) uint64 {
	return 1 << (states*states*(letters+1) + 2*states)
}

// sampled returns any automaton, with few or many edges, of which few or many read nothing.
func sampled(r *rand.Rand, letters, states int) api.NFA {
	n := api.NFA{Letters: letters, States: states}
	edges, blanks, ends := 1+r.Intn(2*letters+1), r.Intn(3), 1+r.Intn(3)
	for from := range states {
		for letter := -1; letter < letters; letter++ {
			for to := range states {
				if p := r.Intn(states * (letters + 1)); letter >= 0 && p < edges || letter < 0 && p < blanks {
					n.Edges = append(n.Edges, api.Edge{From: from, Letter: letter, To: to})
				}
			}
		}
		if r.Intn(states) < ends {
			n.Starts = append(n.Starts, from)
		}
		if r.Intn(states) < ends {
			n.Accept = append(n.Accept, from)
		}
	}
	n.Edges = n.Edges[:min(len(n.Edges), 4000)]
	return n
}

// P7.1, P7.2: what all small automata accept, alone and reversed, and what their states lead to.
func TestAllSmallOnes(t *testing.T) {
	for _, c := range []struct {
		letters, states, most int
		step                  uint64
	}{{1, 0, 3, 1}, {1, 1, 3, 1}, {8, 1, 2, 7}, {1, 2, 6, 1}, {2, 2, 5, 5}, {3, 2, 3, 101}, {1, 3, 8, 1009}, {2, 3, 5, 800011}} {
		l := words(c.letters, c.most)
		for number := uint64(0); number < howMany(c.letters, c.states); number += c.step {
			n := numbered(c.letters, c.states, number)
			is := language(n, l)
			checkAccepts(t, n, l, is)
			checkDetermine(t, n, l, is)
			checkClosure(t, n)
			reversed, e := nondet.Reverse(n)
			checkLanguage(t, reversed, e, l, backwards(l, is), "reversed", n)
			star, e := nondet.Star(n)
			checkLanguage(t, star, e, l, repeated(l, is), "repeated", n)
		}
	}
}

func checkAccepts(t *testing.T, n api.NFA, l wordList, is []bool) {
	t.Helper()
	for i, word := range l.words {
		if got, e := nondet.Accepts(n, word); got != is[i] || e != api.OK {
			t.Fatalf("%v, %v: %v, %d", n, word, got, e)
		}
	}
	for _, letter := range []int{-1, n.Letters} {
		if got, e := nondet.Accepts(n, []int{letter}); got || e != api.ErrRange {
			t.Fatalf("%v, %d: %v, %d", n, letter, got, e)
		}
	}
}

// checkDetermine compares Determine with the automaton of the reached sets, and with the words that are accepted, and what is reversed and determined twice.
func checkDetermine(t *testing.T, n api.NFA, l wordList, is []bool) {
	t.Helper()
	want, wantError := minimal(t, n)
	d, e := nondet.Determine(n)
	if !same(d, want) || e != wantError {
		t.Fatalf("%v: %v, %d, not %v, %d", n, d, e, want, wantError)
	}
	if e != api.OK {
		return
	}
	for i, word := range l.words {
		if automaton.Accepts(d, word) != is[i] {
			t.Fatalf("%v: %v accepts %v otherwise", n, d, word)
		}
	}
	back, e := nondet.Of(d)
	if again, f := nondet.Determine(back); e != api.OK || nondet.Valid(back) != api.OK || !same(again, d) || f != api.OK {
		t.Fatalf("%v: %v comes back as %v, %d, %d", n, d, again, e, f)
	}
	once, e := reversedAndDetermined(t, n)
	if e != api.OK {
		return
	}
	other, e := nondet.Of(once)
	if twice, f := reversedAndDetermined(t, other); e != api.OK || !same(twice, d) || f != api.OK {
		t.Fatalf("%v: reversed and determined twice %v, %d, %d", n, twice, e, f)
	}
}

func reversedAndDetermined(t *testing.T, n api.NFA) (api.DFA, api.Errno) {
	t.Helper()
	reversed, e := nondet.Reverse(n)
	if e != api.OK {
		t.Fatalf("%v: %d", n, e)
	}
	return nondet.Determine(reversed)
}

func checkClosure(t *testing.T, n api.NFA) {
	t.Helper()
	for set := range uint64(1) << min(n.States, 4) {
		l, e := nondet.Closure(n, statesOf(set))
		if !slices.Equal(l, statesOf(closed(n, set))) || e != api.OK {
			t.Fatalf("%v, %b: %v, %d", n, set, l, e)
		}
	}
}

// checkLanguage reports an automaton that is not valid, or accepts other words than those that it is to accept.
func checkLanguage(t *testing.T, n api.NFA, e api.Errno, l wordList, want []bool, how string, of ...api.NFA) {
	t.Helper()
	if e != api.OK || nondet.Valid(n) != api.OK || n.Letters != of[0].Letters {
		t.Fatalf("%v %s: %v, %d", of, how, n, e)
	}
	for i, is := range language(n, l) {
		if is != want[i] {
			t.Fatalf("%v %s: %v accepts %v: %v", of, how, n, l.words[i], is)
		}
	}
}

// backwards returns which words are accepted backwards.
func backwards(l wordList, is []bool) []bool {
	b := make([]bool, len(is))
	for i, word := range l.words {
		word = slices.Clone(word)
		slices.Reverse(word)
		b[i] = is[l.find(word)]
	}
	return b
}

// joined returns which words consist of a word of both languages.
func joined(l wordList, x, y []bool) []bool {
	z := make([]bool, len(x))
	for i, word := range l.words {
		for k := range len(word) + 1 {
			z[i] = z[i] || x[l.find(word[:k])] && y[l.find(word[k:])]
		}
	}
	return z
}

// repeated returns which words consist of any number of words of the language.
func repeated(l wordList, x []bool) []bool {
	z := make([]bool, len(x))
	z[0] = true
	for i, word := range l.words {
		for k := range len(word) {
			z[i] = z[i] || z[l.find(word[:k])] && x[l.find(word[k:])]
		}
	}
	return z
}

func either(x, y []bool) []bool {
	z := slices.Clone(x)
	for i := range z {
		z[i] = z[i] || y[i]
	}
	return z
}

// P7.1, P7.2: pairs of small automata.
func TestSmallPairs(t *testing.T) {
	for _, c := range []struct {
		letters, states, other, most int
		step                         uint64
	}{{1, 1, 1, 4, 1}, {1, 2, 2, 5, 1777}, {2, 2, 1, 4, 307}, {2, 1, 2, 4, 307}, {2, 2, 2, 4, 700001}, {1, 0, 2, 4, 1}, {1, 2, 0, 4, 1}, {3, 2, 2, 3, 800000000003}} {
		l := words(c.letters, c.most)
		first, second := howMany(c.letters, c.states), howMany(c.letters, c.other)
		for number := uint64(0); number < first*second; number += c.step {
			a, b := numbered(c.letters, c.states, number/second), numbered(c.letters, c.other, number%second)
			checkPair(t, a, b, l)
		}
	}
}

func checkPair(t *testing.T, a, b api.NFA, l wordList) {
	t.Helper()
	x, y := language(a, l), language(b, l)
	union, e := nondet.Union(a, b)
	checkLanguage(t, union, e, l, either(x, y), "united", a, b)
	concat, e := nondet.Concat(a, b)
	checkLanguage(t, concat, e, l, joined(l, x, y), "joined", a, b)
	d, e1 := nondet.Determine(a)
	f, e2 := nondet.Determine(b)
	sum, e3 := nondet.Determine(union)
	if e1 != api.OK || e2 != api.OK || e3 != api.OK {
		return
	}
	if want, e := automaton.Product(d, f, api.Or); !same(sum, want) || e != api.OK {
		t.Fatalf("%v, %v: %v instead of %v, %d", a, b, sum, want, e)
	}
}

// P7.1, P7.2: larger ones with up to 8 letters.
func TestSampledOnes(t *testing.T) {
	r := rand.New(rand.NewSource(7))
	lists := make([]wordList, 9)
	for letters := 1; letters <= 8; letters++ {
		lists[letters] = words(letters, []int{0, 12, 6, 4, 3, 3, 2, 2, 2}[letters])
	}
	large, most := 0, 0
	for range 1500 {
		letters := 1 + r.Intn(8)
		l := lists[letters]
		a, b := sampled(r, letters, 1+r.Intn(16)), sampled(r, letters, 1+r.Intn(6))
		is := language(a, l)
		checkAccepts(t, a, l, is)
		checkDetermine(t, a, l, is)
		checkClosure(t, a)
		checkPair(t, a, b, l)
		reversed, e := nondet.Reverse(a)
		checkLanguage(t, reversed, e, l, backwards(l, is), "reversed", a)
		star, e := nondet.Star(a)
		checkLanguage(t, star, e, l, repeated(l, is), "repeated", a)
		if d, e := nondet.Determine(a); e != api.OK {
			large++
		} else {
			most = max(most, len(d.Next))
		}
		checkLongWords(t, r, a)
	}
	if large < 5 || most < 100 {
		t.Errorf("%d too large, at most %d states", large, most)
	}
}

// checkLongWords compares Accepts for words that can be accepted.
func checkLongWords(t *testing.T, r *rand.Rand, n api.NFA) {
	t.Helper()
	for range 5 {
		word := make([]int, r.Intn(40))
		for i := range word {
			word[i] = r.Intn(n.Letters)
		}
		if is, e := nondet.Accepts(n, word); is != accepts(n, word) || e != api.OK {
			t.Fatalf("%v, %v: %v, %d", n, word, is, e)
		}
	}
}

// P7.1, P7.2: many states, with sets that reach across all of them.
func TestSampledManyStates(t *testing.T) {
	r := rand.New(rand.NewSource(77))
	for range 60 {
		letters := 1 + r.Intn(3)
		a := sampled(r, letters, 20+r.Intn(44))
		l := words(letters, 4)
		is := language(a, l)
		checkAccepts(t, a, l, is)
		checkDetermine(t, a, l, is)
		checkClosure(t, a)
		checkLongWords(t, r, a)
	}
}

// P7.2: deterministic automata of up to 400 states.
func TestOfLargeOnes(t *testing.T) {
	r := rand.New(rand.NewSource(777))
	for i := range 60 {
		letters, states := 1+r.Intn(8), 1+r.Intn(400)
		if i%10 == 0 {
			states = 400
		}
		a := api.DFA{Letters: letters, Start: r.Intn(states)}
		gaps, accept := r.Intn(3), 1+r.Intn(4)
		for range states {
			row := make([]int, letters)
			for letter := range row {
				row[letter] = r.Intn(states)
				if r.Intn(8) < gaps {
					row[letter] = -1
				}
			}
			a.Next = append(a.Next, row)
			a.Accept = append(a.Accept, r.Intn(5) < accept)
		}
		want, e := automaton.Minimal(a)
		n, e1 := nondet.Of(a)
		d, e2 := nondet.Determine(n)
		if e != api.OK || e1 != api.OK || e2 != api.OK || nondet.Valid(n) != api.OK || n.Letters != letters || !same(d, want) {
			t.Fatalf("round %d: %d states, %d, %d, %d", i, len(d.Next), e, e1, e2)
		}
	}
}

// P1: any numbers at all.
func TestAnyNumbers(t *testing.T) {
	r := rand.New(rand.NewSource(7777))
	numbers := []int{-1, 0, 1, 2, 3, 8, 9, 400, 401, -2, math.MaxInt, math.MinInt}
	one := func() int { return numbers[r.Intn(2+r.Intn(len(numbers)-1))] }
	list := func() []int {
		l := make([]int, r.Intn(4))
		for i := range l {
			l[i] = one()
		}
		return l
	}
	valid := 0
	for range 200000 {
		n := api.NFA{Letters: one(), States: one(), Starts: list(), Accept: list()}
		for range r.Intn(4) {
			n.Edges = append(n.Edges, api.Edge{From: one(), Letter: one(), To: one()})
		}
		e := nondet.Valid(n)
		if e == api.OK {
			valid++
		}
		_, e1 := nondet.Accepts(n, list())
		_, e2 := nondet.Closure(n, list())
		_, e3 := nondet.Determine(n)
		_, e4 := nondet.Reverse(n)
		_, e5 := nondet.Star(n)
		_, e6 := nondet.Union(n, n)
		_, e7 := nondet.Concat(n, n)
		for _, other := range []api.Errno{e1, e2, e3, e4, e5, e6, e7} {
			if (e == api.ErrInvalid) != (other == api.ErrInvalid) {
				t.Fatalf("%v: %d, %d", n, e, other)
			}
		}
	}
	if valid < 1000 {
		t.Errorf("only %d valid ones", valid)
	}
}
