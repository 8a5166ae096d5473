package expr_test

import (
	"math"
	"slices"
	"strings"
	"testing"

	"anceps/api"
	"anceps/expr"
)

// set returns the Set of the letters with these digits.
func set(letters string) api.Expr {
	x := api.Expr{Kind: api.ExprSet}
	for _, b := range letters {
		x.Set |= 1 << (b - '0')
	}
	return x
}

func seq(kids ...api.Expr) api.Expr          { return api.Expr{Kind: api.ExprSeq, Kids: kids} }
func alt(kids ...api.Expr) api.Expr          { return api.Expr{Kind: api.ExprAlt, Kids: kids} }
func power(n int, kids ...api.Expr) api.Expr { return api.Expr{Kind: api.ExprPower, N: n, Kids: kids} }
func star(kids ...api.Expr) api.Expr         { return api.Expr{Kind: api.ExprStar, Kids: kids} }
func opt(kids ...api.Expr) api.Expr          { return api.Expr{Kind: api.ExprOpt, Kids: kids} }
func times(n int, x api.Expr) []api.Expr     { return slices.Repeat([]api.Expr{x}, n) }
func row(n int, x api.Expr) api.Expr         { return seq(times(n, x)...) }
func deep(levels int, leaf api.Expr) api.Expr {
	return nested(levels, leaf, func(x api.Expr) api.Expr { return seq(x) })
}

// nested puts a leaf into so many levels, itself included.
func nested(levels int, leaf api.Expr, around func(api.Expr) api.Expr) api.Expr {
	x := leaf
	for range levels - 1 {
		x = around(x)
	}
	return x
}

// powers returns the ninth power of the ninth power, and so on.
func powers(levels int, leaf api.Expr) api.Expr {
	return nested(levels, leaf, func(x api.Expr) api.Expr { return power(9, x) })
}

// doubled has 2^levels - 1 nodes, as all kids are the same lists.
func doubled(levels int, leaf api.Expr) api.Expr {
	return nested(levels, leaf, func(x api.Expr) api.Expr { return seq(x, x) })
}

// endless returns an expression that contains itself.
func endless(kind int) api.Expr {
	kids := make([]api.Expr, 1)
	kids[0] = api.Expr{Kind: kind, Kids: kids}
	return kids[0]
}

// read returns the expression with a text.
func read(t *testing.T, s string) api.Expr {
	t.Helper()
	x, e := expr.Parse(s)
	if e != api.OK {
		t.Fatalf("%s: %d", s, e)
	}
	return x
}

// word returns the letters with these digits.
func word(s string) []int {
	l := []int{}
	for _, b := range s {
		l = append(l, int(b-'0'))
	}
	return l
}

func key(word []int) string {
	b := make([]byte, len(word))
	for i, letter := range word {
		b[i] = byte('0' + letter)
	}
	return string(b)
}

func isEqual(x, y api.Expr) bool {
	return x.Kind == y.Kind && x.Set == y.Set && x.N == y.N && slices.EqualFunc(x.Kids, y.Kids, isEqual)
}

func isZero(x api.Expr) bool {
	return isEqual(x, api.Expr{})
}

func isZeroAutomaton(a api.DFA) bool {
	return a.Letters == 0 && a.Start == 0 && a.Next == nil && a.Accept == nil
}

// scribble overwrites all that an expression consists of.
func scribble(x api.Expr) {
	for i, kid := range x.Kids {
		scribble(kid)
		x.Kids[i] = api.Expr{Kind: 77}
	}
}

// copied returns a copy that shares no memory.
func copied(x api.Expr) api.Expr {
	x.Kids = slices.Clone(x.Kids)
	for i, kid := range x.Kids {
		x.Kids[i] = copied(kid)
	}
	return x
}

// judged is an expression with its error.
type judged struct {
	x    api.Expr
	want api.Errno
}

// judgedOnes returns expressions on both sides of all limits.
func judgedOnes() []judged {
	a, blank := set("0"), seq()
	l := []judged{
		{set(""), 0}, {set("01234567"), 0}, {blank, 0}, {api.Expr{Kind: api.ExprSeq, Kids: []api.Expr{}}, 0}, {api.Expr{Kind: api.ExprSet, Kids: []api.Expr{}}, 0}, {seq(a), 0}, {alt(a, a), 0}, {alt(a, blank, set(""), a), 0},
		{power(0, a), 0}, {power(9, a), 0}, {star(blank), 0}, {opt(star(power(3, seq(opt(a), a)))), 0},
		// There is no such kind, or the number of kids is wrong.
		{api.Expr{}, api.ErrInvalid}, {api.Expr{Kind: 7}, api.ErrInvalid}, {api.Expr{Kind: -1}, api.ErrInvalid}, {api.Expr{Kind: math.MaxInt, Kids: times(2, a)}, api.ErrInvalid}, {api.Expr{Kind: math.MinInt}, api.ErrInvalid},
		{api.Expr{Kind: api.ExprSet, Set: 1, Kids: times(1, a)}, api.ErrInvalid}, {alt(), api.ErrInvalid}, {alt(a), api.ErrInvalid}, {power(2), api.ErrInvalid}, {power(2, a, a), api.ErrInvalid}, {star(), api.ErrInvalid}, {star(a, a), api.ErrInvalid}, {opt(), api.ErrInvalid}, {opt(a, a), api.ErrInvalid},
		// Set or N is not 0 where it must be.
		{api.Expr{Kind: api.ExprSet, Set: 1, N: 1}, api.ErrInvalid}, {api.Expr{Kind: api.ExprSeq, Set: 1}, api.ErrInvalid}, {api.Expr{Kind: api.ExprSeq, N: 1}, api.ErrInvalid}, {api.Expr{Kind: api.ExprAlt, Set: -1, Kids: times(2, a)}, api.ErrInvalid}, {api.Expr{Kind: api.ExprAlt, N: -1, Kids: times(2, a)}, api.ErrInvalid},
		{api.Expr{Kind: api.ExprPower, N: 2, Set: 256, Kids: times(1, a)}, api.ErrInvalid}, {api.Expr{Kind: api.ExprStar, Set: 1, Kids: times(1, a)}, api.ErrInvalid}, {api.Expr{Kind: api.ExprStar, N: 2, Kids: times(1, a)}, api.ErrInvalid}, {api.Expr{Kind: api.ExprOpt, Set: math.MinInt, Kids: times(1, a)}, api.ErrInvalid}, {api.Expr{Kind: api.ExprOpt, N: math.MaxInt, Kids: times(1, a)}, api.ErrInvalid},
		// The first node in preorder counts, and ErrInvalid ahead of ErrRange in one node.
		{api.Expr{Kind: api.ExprSet, Set: 256, N: 1}, api.ErrInvalid}, {power(10), api.ErrInvalid}, {power(10, api.Expr{}), api.ErrRange}, {seq(power(2, power(10, a)), api.Expr{}), api.ErrRange}, {seq(seq(a, api.Expr{}), power(10, a)), api.ErrInvalid}, {seq(power(10, a), alt(a)), api.ErrRange}, {alt(power(-1, a)), api.ErrInvalid},
		// Sizes. Nodes and levels count ahead of all other errors, leaves behind them.
		{row(499, blank), 0}, {row(500, blank), api.ErrTooLarge}, {row(500, api.Expr{}), api.ErrTooLarge}, {seq(alt(times(249, opt(blank))...)), 0}, {alt(times(250, opt(blank))...), api.ErrTooLarge}, {api.Expr{Kids: times(499, a)}, api.ErrInvalid}, {api.Expr{Kids: times(500, a)}, api.ErrTooLarge}, {row(1<<20, blank), api.ErrTooLarge},
		{deep(40, a), 0}, {deep(41, a), api.ErrTooLarge}, {deep(40, api.Expr{}), api.ErrInvalid}, {deep(41, api.Expr{}), api.ErrTooLarge}, {seq(a, deep(39, blank), a), 0}, {seq(a, deep(40, blank), a), api.ErrTooLarge}, {alt(deep(40, blank)), api.ErrTooLarge},
		{doubled(8, a), 0}, {doubled(9, a), api.ErrTooLarge}, {doubled(40, a), api.ErrTooLarge}, {doubled(64, api.Expr{}), api.ErrTooLarge}, {endless(api.ExprSeq), api.ErrTooLarge}, {endless(api.ExprSet), api.ErrTooLarge}, {endless(0), api.ErrTooLarge}, {seq(endless(api.ExprStar)), api.ErrTooLarge},
		{row(400, a), 0}, {row(401, a), api.ErrTooLarge}, {seq(append(times(401, a), api.Expr{})...), api.ErrInvalid}, {seq(append(times(401, a), power(10, a))...), api.ErrRange}, {row(401, set("")), api.ErrTooLarge}, {alt(times(400, a)...), 0}, {alt(times(401, a)...), api.ErrTooLarge}, {star(row(401, a)), api.ErrTooLarge}, {opt(row(401, a)), api.ErrTooLarge},
		{power(8, row(50, a)), 0}, {power(8, row(51, a)), api.ErrTooLarge}, {power(0, row(498, a)), 0}, {power(1, row(400, a)), 0}, {power(1, row(401, a)), api.ErrTooLarge}, {seq(power(9, row(40, a)), row(40, a)), 0}, {seq(power(9, row(40, a)), row(41, a)), api.ErrTooLarge},
		{powers(3, a), 0}, {powers(4, a), api.ErrTooLarge}, {powers(40, a), api.ErrTooLarge}, {power(0, powers(39, a)), 0}, {powers(40, blank), 0}, {powers(39, power(0, a)), 0}, {powers(20, power(0, powers(20, a))), 0}, {powers(30, seq(power(0, a), a)), api.ErrTooLarge},
	}
	for _, n := range []int{-1, 256, 257, math.MaxInt, math.MinInt, 1 << 32} {
		l = append(l, judged{api.Expr{Kind: api.ExprSet, Set: n}, api.ErrRange}, judged{seq(a, api.Expr{Kind: api.ExprSet, Set: n}), api.ErrRange})
	}
	for _, n := range []int{-1, 10, math.MaxInt, math.MinInt, 1 << 32} {
		l = append(l, judged{power(n, a), api.ErrRange}, judged{star(power(n, blank)), api.ErrRange})
	}
	return l
}

// P8.1
func TestValid(t *testing.T) {
	for i, c := range judgedOnes() {
		if e := expr.Valid(c.x); e != c.want {
			t.Errorf("row %d: %d instead of %d", i, e, c.want)
		}
	}
}

// P8.1: the error of Valid comes ahead of all others, with zero values.
func TestErrorsOfValid(t *testing.T) {
	for i, c := range judgedOnes() {
		if c.want == api.OK {
			continue
		}
		if is, e := expr.Accepts(c.x, make([]int, 300)); is || e != c.want {
			t.Errorf("Accepts %d: %v, %d", i, is, e)
		}
		if is, e := expr.Nullable(c.x); is || e != c.want {
			t.Errorf("Nullable %d: %v, %d", i, is, e)
		}
		for _, letters := range []int{0, 2, 8} {
			if a, e := expr.Automaton(c.x, letters); !isZeroAutomaton(a) || e != c.want {
				t.Errorf("Automaton %d: %v, %d", i, a, e)
			}
			if l, e := expr.Words(c.x, letters, 21-letters); len(l) != 0 || e != c.want {
				t.Errorf("Words %d: %v, %d", i, l, e)
			}
		}
		if least, greatest, e := expr.Lengths(c.x); least != 0 || greatest != 0 || e != c.want {
			t.Errorf("Lengths %d: %d, %d, %d", i, least, greatest, e)
		}
		if r, e := expr.Reverse(c.x); !isZero(r) || e != c.want {
			t.Errorf("Reverse %d: %d", i, e)
		}
		if s, e := expr.Format(c.x); s != "" || e != c.want {
			t.Errorf("Format %d: %s, %d", i, s, e)
		}
	}
}

// language is the text of an expression with words that belong to its language, and some that do not; e is the empty word.
type language struct{ text, words, others string }

func languages() []language {
	return []language{
		{"([1][01]*)", "1 10 11 100 1101", "e 0 01 2 12"}, {"(([0]|([1][1]))^2)", "00 011 110 1111", "e 0 11 111 01 000 11111"}, {"[]", "", "e 0 7"}, {"[07]", "0 7", "e 1 6 00 77"}, {"()", "e", "0 1"}, {"([0])", "0", "e 00 1"},
		{"([0][12][0])", "010 020", "e 01 10 000 0100"}, {"([0]|[1])", "0 1", "e 01 2"}, {"(()|[3]|())", "e 3", "33 0"}, {"([]|[3])", "3", "e 33"}, {"([][3])", "", "e 3"}, {"([3][])", "", "e 3"}, {"([0]|([1][2])|[3]*)", "0 12 e 3 333", "1 2 03 123"},
		{"[5]^0", "e", "5"}, {"[]^0", "e", "0"}, {"[]^1", "", "e 0"}, {"[5]^1", "5", "e 55"}, {"[56]^3", "555 566 656", "e 55 5555"}, {"[0]?^2", "e 0 00", "000 1"}, {"[0]*^2", "e 0 000", "1 01"}, {"([0]^0[1])", "1", "e 01 0"}, {"([0]|())^9", "e 0 000000000", "0000000000"},
		{"[]*", "e", "0"}, {"()*", "e", "0"}, {"[0]*", "e 0 00 00000", "1 01"}, {"([0][1])*", "e 01 0101", "0 10 010"}, {"([0]?[1]?)*", "e 0 1 10 0011", "2 12"}, {"([0]*[1]*)", "e 0 1 0011", "10 010"}, {"[0]**", "e 0 00", "1"}, {"[0]^2*", "e 00 0000", "0 000"}, {"[0]*?", "e 0 00", "1"},
		{"[]?", "e", "0"}, {"[4]?", "e 4", "44 0"}, {"()?", "e", "4"}, {"([0]?[1][2]?)", "1 01 12 012", "e 0 2 02 10"}, {"(([0]|())([1]|())[2])", "2 02 12 012", "e 0 01 102"}, {"(([0]*|[1])[2])^2", "22 0212 1202 0022", "e 2 222 0122 222222"},
		{"([01]*[1][01]^3)", "1000 01111 11000", "e 0111 100 000 10000"}, {"(([0]|[1])*|([]|[2])^2)?", "e 0 1 0110 22", "2 222 02"}, {"([0][]*[1])", "01", "e 0 1 001"}, {"((([0][])|[1])[2])*", "e 12 1212", "0 1 02 120 0212"},
	}
}

// P8.1
func TestAccepts(t *testing.T) {
	for _, c := range languages() {
		x := read(t, c.text)
		for i, words := range []string{c.others, c.words} {
			for _, s := range strings.Fields(words) {
				w := word(strings.TrimPrefix(s, "e"))
				if is, e := expr.Accepts(x, w); is != (i == 1) || e != api.OK {
					t.Errorf("%s, %s: %v, %d", c.text, s, is, e)
				}
				if is, e := expr.Nullable(x); len(w) == 0 && (is != (i == 1) || e != api.OK) {
					t.Errorf("%s: nullable %v, %d", c.text, is, e)
				}
			}
		}
	}
}

// P8.1: a word of any numbers is a word, but too long a one is not looked at.
func TestAcceptsAnyNumbers(t *testing.T) {
	all := read(t, "[01234567]*")
	for _, number := range []int{8, 9, -1, -8, 1 << 32, 1<<32 + 1, math.MaxInt, math.MinInt, 64, 63, -64} {
		for _, w := range [][]int{{number}, {0, number}, {number, 7}, {7, number, 7}} {
			if is, e := expr.Accepts(all, w); is || e != api.OK {
				t.Errorf("%v: %v, %d", w, is, e)
			}
		}
	}
	for i, c := range []struct {
		text string
		word []int
		want bool
		e    api.Errno
	}{
		{"[01234567]*", make([]int, 200), true, 0}, {"[01234567]*", make([]int, 201), false, api.ErrTooLarge}, {"[1]*", make([]int, 200), false, 0}, {"[1]*", make([]int, 201), false, api.ErrTooLarge}, {"[1]", slices.Repeat([]int{-1}, 201), false, api.ErrTooLarge}, {"[1]", slices.Repeat([]int{-1}, 200), false, 0},
		{"[0]^8^5^5", make([]int, 200), true, 0}, {"[0]^8^5^5", make([]int, 199), false, 0}, {"([0]^8^5^5[0]^8^5^5)", make([]int, 200), false, 0}, {"([0]^8^5^5[0]?^8^5^5)", make([]int, 200), true, 0}, {"([0]^3*[0]^7*)", make([]int, 200), true, 0}, {"([0]^6*|[0]^7*)", make([]int, 200), false, 0},
	} {
		kept := slices.Clone(c.word)
		if is, e := expr.Accepts(read(t, c.text), c.word); is != c.want || e != c.e {
			t.Errorf("row %d: %v, %d", i, is, e)
		}
		if !slices.Equal(c.word, kept) {
			t.Errorf("row %d: the word was changed", i)
		}
	}
}

// P8.1: powers whose kids have no leaves are the empty word, however many of them there are.
func TestEmptyPowers(t *testing.T) {
	for i, c := range []struct {
		x    api.Expr
		want string // the only word
	}{
		{powers(40, seq()), ""}, {power(0, powers(39, set("1"))), ""}, {powers(39, power(0, set("1"))), ""}, {powers(20, power(0, powers(20, set("")))), ""}, {powers(30, row(200, power(0, seq()))), ""},
		{powers(30, alt(times(100, star(opt(seq())))...)), ""}, {seq(set("1"), powers(39, seq()), set("2")), "12"}, {power(3, seq(powers(38, seq()), set("1"))), "111"}, {power(2, seq(power(0, set("")), set("1"))), "11"},
	} {
		if is, e := expr.Accepts(c.x, word(c.want)); !is || e != api.OK {
			t.Errorf("Accepts %d: %v, %d", i, is, e)
		}
		if is, e := expr.Nullable(c.x); is != (c.want == "") || e != api.OK {
			t.Errorf("Nullable %d: %v, %d", i, is, e)
		}
		if l, e := expr.Words(c.x, 3, 20); len(l) != 1 || key(l[0]) != c.want || e != api.OK {
			t.Errorf("Words %d: %v, %d", i, l, e)
		}
		if a, e := expr.Automaton(c.x, 3); len(a.Next) != len(c.want)+1 || !a.Accept[len(c.want)] || e != api.OK {
			t.Errorf("Automaton %d: %v, %d", i, a, e)
		}
		if least, greatest, e := expr.Lengths(c.x); least != len(c.want) || greatest != len(c.want) || e != api.OK {
			t.Errorf("Lengths %d: %d, %d, %d", i, least, greatest, e)
		}
	}
}

// dfa returns an automaton with a row and a byte of accept (+ or -) for each state.
func dfa(letters, start int, accept string, rows ...[]int) api.DFA {
	a := api.DFA{Letters: letters, Start: start, Next: rows}
	for _, b := range accept {
		a.Accept = append(a.Accept, b == '+')
	}
	return a
}

func same(a, b api.DFA) bool {
	return a.Letters == b.Letters && a.Start == b.Start && slices.Equal(a.Accept, b.Accept) && slices.EqualFunc(a.Next, b.Next, slices.Equal)
}

// P8.1
func TestAutomaton(t *testing.T) {
	for _, c := range []struct {
		text    string
		letters int
		want    api.DFA
	}{
		{"([1][01]*)", 2, dfa(2, 0, "-+", []int{-1, 1}, []int{1, 1})}, {"([1][01]*)", 3, dfa(3, 0, "-+", []int{-1, 1, -1}, []int{1, 1, -1})}, {"()", 1, dfa(1, 0, "+", []int{-1})}, {"[]", 1, dfa(1, -1, "")}, {"([0][])", 8, dfa(8, -1, "")}, {"([][7])", 8, dfa(8, -1, "")},
		{"[7]", 8, dfa(8, 0, "-+", []int{-1, -1, -1, -1, -1, -1, -1, 1}, slices.Repeat([]int{-1}, 8))}, {"[01]*", 2, dfa(2, 0, "+", []int{0, 0})}, {"[0]?", 1, dfa(1, 0, "++", []int{1}, []int{-1})}, {"[0]^3*", 1, dfa(1, 0, "+--", []int{1}, []int{2}, []int{0})}, {"[]*", 2, dfa(2, 0, "+", []int{-1, -1})},
		{"([0]|([1][1]))", 2, dfa(2, 0, "-+-", []int{1, 2}, []int{-1, -1}, []int{-1, 1})}, {"(([0][0])|([1][0]))", 2, dfa(2, 0, "--+", []int{1, 1}, []int{2, -1}, []int{-1, -1})}, {"([01]*[1][01])", 2, dfa(2, 0, "--++", []int{0, 1}, []int{2, 3}, []int{0, 1}, []int{2, 3})},
		// A leaf that leads nowhere, and one that nothing leads to.
		{"(([0][])|[1])", 2, dfa(2, 0, "-+", []int{-1, 1}, []int{-1, -1})}, {"(([][0])|[1])", 2, dfa(2, 0, "-+", []int{-1, 1}, []int{-1, -1})},
	} {
		x := read(t, c.text)
		kept := copied(x)
		if a, e := expr.Automaton(x, c.letters); !same(a, c.want) || e != api.OK {
			t.Errorf("%s: %v, %d", c.text, a, e)
		}
		if !isEqual(x, kept) {
			t.Errorf("%s: the expression was changed", c.text)
		}
	}
}

// P8.1: the letters must be in their range, and all Sets below them, even those that no word uses.
func TestAutomatonLetters(t *testing.T) {
	for i, c := range []struct {
		text string
		most int // the greatest letter
	}{
		{"()", 0}, {"[]", 0}, {"[0]", 0}, {"[01]", 1}, {"[2]", 2}, {"([0]|([1]*[0])?)", 1}, {"[04]^0", 4}, {"([][5])", 5}, {"(()|[016]^2)", 6}, {"[7]", 7}, {"([0][0][3][0])", 3},
	} {
		for _, letters := range []int{math.MinInt, -1, 0, 1, 2, 3, 4, 5, 6, 7, 8, 9, 64, 65, math.MaxInt} {
			a, e := expr.Automaton(read(t, c.text), letters)
			if c.most < letters && letters <= 8 {
				if a.Letters != letters || e != api.OK {
					t.Errorf("row %d, %d: %v, %d", i, letters, a, e)
				}
			} else if !isZeroAutomaton(a) || e != api.ErrRange {
				t.Errorf("row %d, %d: %v, %d", i, letters, a, e)
			}
		}
	}
}

// P8.1: at most 400 sets of leaves are reached, the beginning included, whether words go on from them to an end or not.
func TestAutomatonSizes(t *testing.T) {
	a, none := set("0"), set("")
	for i, c := range []struct {
		x    api.Expr
		want int // how many states, or -1 for an error
	}{
		{row(399, a), 400}, {row(400, a), -1}, {power(9, row(44, a)), 397}, {power(8, row(50, a)), -1}, {opt(row(399, a)), 400}, {opt(row(400, a)), -1}, {power(9, power(5, row(8, opt(a)))), 361}, {power(8, row(50, opt(a))), -1},
		{star(row(399, a)), 399}, {star(row(400, a)), -1}, {alt(cycle(19), cycle(21)), 399}, {alt(cycle(16), cycle(25)), -1}, {alt(row(200, a), row(199, set("1"))), 399}, {alt(row(200, a), row(200, set("1"))), -1}, {alt(row(200, a), row(200, a)), 201},
		{alt(times(400, a)...), 2}, {star(alt(times(400, set("01234567"))...)), 1}, {last(8), 256}, {last(9), -1}, {last(50), -1}, {power(0, last(9)), 1}, {power(0, row(400, a)), 1},
		// Nothing ends behind an empty Set, but what comes ahead of it is reached.
		{seq(row(399, a), none), 0}, {seq(none, row(399, a)), 0}, {seq(row(200, a), none, row(199, a)), 0}, {alt(row(398, a), seq(a, none)), 399}, {seq(last(8), none), 0}, {seq(last(9), none), -1}, {seq(none, last(9)), 0}, {seq(star(none), last(9)), -1}, {alt(set("2"), seq(last(9), none)), -1},
	} {
		b, e := expr.Automaton(c.x, 8)
		if c.want < 0 && (!isZeroAutomaton(b) || e != api.ErrTooLarge) || c.want >= 0 && (len(b.Next) != c.want || e != api.OK) {
			t.Errorf("row %d: %d states, %d", i, len(b.Next), e)
		}
	}
}

// cycle returns the words of zeros whose lengths n divides.
func cycle(n int) api.Expr { return star(row(n, set("0"))) }

// last returns the words whose letter with this number from behind is 1: they reach 2^number sets.
func last(number int) api.Expr {
	return seq(append([]api.Expr{star(set("01")), set("1")}, times(number-1, set("01"))...)...)
}

// P8.1
func TestWords(t *testing.T) {
	for _, c := range []struct {
		text          string
		letters, most int
		want          string
	}{
		{"([1][01]*)", 2, 2, "1 10 11"}, {"([1][01]*)", 2, 0, ""}, {"([1][01]*)", 2, 1, "1"}, {"([1][01]*)", 1, 20, ""}, {"([1][01]*)", 8, 3, "1 10 11 100 101 110 111"}, {"(([0]|([1][1]))^2)", 2, 20, "00 011 110 1111"}, {"(([0]|([1][1]))^2)", 2, 3, "00 011 110"},
		{"()", 1, 0, "e"}, {"()", 8, 20, "e"}, {"[]", 8, 20, ""}, {"[]*", 8, 20, "e"}, {"[07]", 8, 1, "0 7"}, {"[07]", 7, 1, "0"}, {"[07]", 8, 0, ""}, {"[7]", 7, 20, ""}, {"([1]|([0][1])|[0]|())", 2, 2, "e 0 1 01"}, {"([2]|([0][1][0])|([1][0])|())", 3, 20, "e 2 10 010"},
		{"[0]*", 1, 3, "e 0 00 000"}, {"[0]^3*", 1, 8, "e 000 000000"}, {"(([0]|[0])|([0]?[0]))", 2, 20, "0 00"}, {"([0]*|[01]*|([2][]))", 3, 2, "e 0 1 00 01 10 11"}, {"(([0]|([1][2]))|[1])", 2, 20, "0 1"}, {"([0]*[1][0]*)", 2, 3, "1 01 10 001 010 100"}, {"([0]^0[5])", 6, 1, "5"},
	} {
		x := read(t, c.text)
		l, e := expr.Words(x, c.letters, c.most)
		found := []string{}
		for _, w := range l {
			found = append(found, name(w))
		}
		if !slices.Equal(found, strings.Fields(c.want)) || e != api.OK {
			t.Errorf("%s, %d, %d: %v, %d", c.text, c.letters, c.most, found, e)
		}
	}
}

// name returns the digits of a word, e for the empty one.
func name(word []int) string {
	if len(word) == 0 {
		return "e"
	}
	return key(word)
}

// P8.1: there are at most 2000 words, those that are longer or have other letters not counted, and they are found soon, however many there are that lead nowhere.
func TestWordsSizes(t *testing.T) {
	for i, c := range []struct {
		text          string
		letters, most int
		want          int
		e             api.Errno
	}{
		{"([0123]^2[01234]^3)", 8, 20, 2000, 0}, {"([0123]^2[01234]^3)", 4, 20, 1024, 0}, {"([0123]^2[01234]^3)", 8, 4, 0, 0}, {"(([0123]^2[01234]^3)|())", 8, 20, 0, api.ErrTooLarge}, {"(([0123]^2[01234]^3)|())", 8, 4, 1, 0}, {"(([0123]^2[01234]^3)|[01234]^6)", 5, 5, 2000, 0}, {"(([0123]^2[01234]^3)|[5]^6)", 6, 6, 0, api.ErrTooLarge}, {"(([0123]^2[01234]^3)|[5]^6)", 5, 6, 2000, 0},
		{"(([0123]^2[01234]^3)|([01][23][01234]^3))", 8, 20, 2000, 0}, {"[01]*", 2, 9, 1023, 0}, {"[01]*", 2, 10, 0, api.ErrTooLarge}, {"[01]*", 1, 20, 21, 0}, {"[01234567]*", 8, 3, 585, 0}, {"[01234567]*", 8, 4, 0, api.ErrTooLarge}, {"[01234567]*", 8, 20, 0, api.ErrTooLarge}, {"[01234567]?^9^9", 8, 20, 0, api.ErrTooLarge},
		{"[01]^3^9", 2, 20, 0, 0}, {"([01]*[2])", 2, 20, 0, 0}, {"([01]^9^2[2])", 2, 20, 0, 0}, {"([01]^9^2[])", 2, 20, 0, 0}, {"([0123456]^9^2[])", 8, 20, 0, 0}, {"([0123456]^9^2[7])", 7, 20, 0, 0}, {"([0123456]^9^2[7]^3)", 8, 20, 0, 0}, {"([01]*[1][01]^9^2[3])", 3, 20, 0, 0}, {"(([01]^9^3[01]*)|[1]^4^5)", 2, 20, 1, 0}, {"([01]*[01]*[01]*[01]^9^9)", 8, 20, 0, 0},
		{"([01]*[0]^9^2)", 2, 20, 7, 0}, {"([01]*[2]^9^2)", 3, 20, 7, 0}, {"([01]*[2]^9^2)", 2, 20, 0, 0},
	} {
		l, e := expr.Words(read(t, c.text), c.letters, c.most)
		if len(l) != c.want || e != c.e {
			t.Errorf("row %d: %d words, %d", i, len(l), e)
		}
	}
	for _, c := range [][2]int{{0, 0}, {0, 5}, {-1, 5}, {9, 5}, {math.MaxInt, 5}, {math.MinInt, 5}, {1, -1}, {1, 21}, {8, math.MaxInt}, {8, math.MinInt}, {0, 21}} {
		for _, text := range []string{"()", "[]", "[01]*", "[7]"} {
			if l, e := expr.Words(read(t, text), c[0], c[1]); len(l) != 0 || e != api.ErrRange {
				t.Errorf("%s, %v: %v, %d", text, c, l, e)
			}
		}
	}
}

// P8.1: no word shares memory with another one.
func TestWordsAreTheirOwn(t *testing.T) {
	l, _ := expr.Words(read(t, "[01]*"), 2, 4)
	for i, w := range l {
		for j := range w {
			w[j] = i
		}
		_ = append(w, i)
	}
	for i, w := range l {
		for _, letter := range w {
			if letter != i {
				t.Errorf("word %d: %v", i, w)
			}
		}
	}
}

// P8.1
func TestLengths(t *testing.T) {
	for _, c := range []struct {
		text            string
		least, greatest int
		e               api.Errno
	}{
		{"[]", 0, 0, api.ErrNone}, {"()", 0, 0, 0}, {"[0]", 1, 1, 0}, {"[01234567]", 1, 1, 0}, {"(([0]|([1][1]))^2)", 2, 4, 0}, {"([1][01]*)", 1, -1, 0}, {"[0]*", 0, -1, 0}, {"[]*", 0, 0, 0}, {"()*", 0, 0, 0}, {"([][0])*", 0, 0, 0}, {"[0]**", 0, -1, 0}, {"([][0]*)*", 0, 0, 0},
		{"[]^0", 0, 0, 0}, {"[]^1", 0, 0, api.ErrNone}, {"[]^9", 0, 0, api.ErrNone}, {"[3]^0", 0, 0, 0}, {"[3]*^0", 0, 0, 0}, {"[3]*^2", 0, -1, 0}, {"([3]*[4])^2", 2, -1, 0}, {"[3]?^9^9", 0, 81, 0}, {"[3]^9^9", 81, 81, 0}, {"([3]?[4])^9", 9, 18, 0}, {"[]?", 0, 0, 0}, {"[]?^9", 0, 0, 0}, {"[3]*?", 0, -1, 0},
		{"([0]*[])", 0, 0, api.ErrNone}, {"([][0]*)", 0, 0, api.ErrNone}, {"([0]*|[])", 0, -1, 0}, {"([]|[0]*)", 0, -1, 0}, {"([]|[])", 0, 0, api.ErrNone}, {"([]|([0][0])|[])", 2, 2, 0}, {"(([][0]*)|[1])", 1, 1, 0}, {"([1]|([][0]*))", 1, 1, 0}, {"(([][])|([0][0][0])|([0][0]))", 2, 3, 0},
		{"([]?[3])", 1, 1, 0}, {"([]|())", 0, 0, 0}, {"([0]^9^5|[0]^9^6)", 45, 54, 0}, {"([0]*[1]^9^5)", 45, -1, 0}, {"(([0]^9[1]*)|[0]^4)", 4, -1, 0}, {"([0]^4|([0]^9[1]*)|[0]^5)", 4, -1, 0}, {"([0]*^2|[0]^9)^1", 0, -1, 0},
	} {
		if least, greatest, e := expr.Lengths(read(t, c.text)); least != c.least || greatest != c.greatest || e != c.e {
			t.Errorf("%s: %d, %d, %d", c.text, least, greatest, e)
		}
	}
	a := set("0")
	for i, c := range []struct {
		x               api.Expr
		least, greatest int
	}{
		{row(400, a), 400, 400}, {opt(row(400, a)), 0, 400}, {power(8, row(50, a)), 400, 400}, {power(8, row(50, opt(a))), 0, 400}, {power(1, star(row(400, a))), 0, -1}, {power(0, powers(39, a)), 0, 0}, {power(0, powers(38, star(a))), 0, 0}, {powers(20, power(0, powers(20, a))), 0, 0},
		{seq(power(0, powers(38, a)), row(399, a), opt(a)), 399, 400}, {alt(row(399, a), a), 1, 399},
	} {
		if least, greatest, e := expr.Lengths(c.x); least != c.least || greatest != c.greatest || e != api.OK {
			t.Errorf("row %d: %d, %d, %d", i, least, greatest, e)
		}
	}
}

// P8.1
func TestReverse(t *testing.T) {
	for _, c := range [][2]string{
		{"[]", "[]"}, {"[02]", "[02]"}, {"()", "()"}, {"([1])", "([1])"}, {"([0][1])", "([1][0])"}, {"([0][1][2])", "([2][1][0])"}, {"([0]|[1]|[2])", "([0]|[1]|[2])"}, {"(([0]|([1][1]))^2)", "(([0]|([1][1]))^2)"}, {"([1][01]*)", "([01]*[1])"},
		{"([0]([1][2])*([3]|([4][5])|())^2)", "(([3]|([5][4])|())^2([2][1])*[0])"}, {"(([0][1])^3?(([2][3])[4]))", "(([4]([3][2]))([1][0])^3?)"}, {"([0][1])^0", "([1][0])^0"},
	} {
		x := read(t, c[0])
		kept := copied(x)
		r, e := expr.Reverse(x)
		if !isEqual(r, read(t, c[1])) || e != api.OK {
			t.Errorf("%s: %v, %d", c[0], r, e)
		}
		if !isEqual(x, kept) {
			t.Errorf("%s: the expression was changed", c[0])
		}
		scribble(r)
		if !isEqual(x, kept) {
			t.Errorf("%s: the result shares memory with the expression", c[0])
		}
	}
}

// P8.1: no two lists of a result share memory, even if lists of the argument do.
func TestReverseIsItsOwn(t *testing.T) {
	x := doubled(5, set("1"))
	r, e := expr.Reverse(x)
	if !isEqual(r, copied(x)) || e != api.OK {
		t.Fatalf("%v, %d", r, e)
	}
	scribble(r.Kids[0])
	if !isEqual(r.Kids[1], doubled(4, set("1"))) {
		t.Errorf("both kids share memory: %v", r)
	}
}

// P8.1
func TestTexts(t *testing.T) {
	a, b := set("0"), set("1")
	for _, c := range []struct {
		x    api.Expr
		text string
	}{
		{set(""), "[]"}, {a, "[0]"}, {set("7"), "[7]"}, {set("01234567"), "[01234567]"}, {set("530"), "[035]"}, {seq(), "()"}, {seq(a), "([0])"}, {seq(seq()), "(())"}, {seq(a, b, a), "([0][1][0])"}, {alt(a, b), "([0]|[1])"}, {alt(seq(), a, seq()), "(()|[0]|())"},
		{power(0, a), "[0]^0"}, {power(9, set("")), "[]^9"}, {star(a), "[0]*"}, {opt(a), "[0]?"}, {star(star(a)), "[0]**"}, {opt(star(power(1, power(2, a)))), "[0]^2^1*?"}, {power(3, opt(star(seq()))), "()*?^3"}, {star(alt(a, b)), "([0]|[1])*"},
		{seq(set("1"), star(set("01"))), "([1][01]*)"}, {seq(power(2, alt(a, seq(b, b)))), "(([0]|([1][1]))^2)"}, {alt(set("2"), seq(a)), "([2]|([0]))"}, {alt(set("2"), a), "([2]|[0])"}, {seq(alt(a, b), a), "(([0]|[1])[0])"}, {alt(seq(a, b), a), "(([0][1])|[0])"}, {seq(power(2, a), power(3, b)), "([0]^2[1]^3)"},
	} {
		kept := copied(c.x)
		if s, e := expr.Format(c.x); s != c.text || e != api.OK {
			t.Errorf("%s: %s, %d", c.text, s, e)
		}
		if !isEqual(c.x, kept) {
			t.Errorf("%s: the expression was changed", c.text)
		}
		if x, e := expr.Parse(c.text); !isEqual(x, c.x) || e != api.OK {
			t.Errorf("%s: %v, %d", c.text, x, e)
		}
	}
}

// P8.1
func TestParseErrors(t *testing.T) {
	for _, s := range []string{
		"", " ", "[", "]", "(", ")", "[0", "0]", "0", "([0]", "[0])", "[0][1]", "[0]|[1]", "()()", "[10]", "[00]", "[8]", "[9]", "[08]", "[-1]", "[0,1]", "[0 1]", "[ ]", "[a]", "[0]^", "[0]^a", "[0]^-1", "[0]^10", "[0]^00", "[0]^^2", "[0]2", "^2", "*", "?", "|", "[0]+", "[0]!",
		"(|)", "([0]|)", "(|[0])", "([0]||[1])", "([0]|[1]|)", "([0][1]|[2])", "([0]|[1][2])", "([0]|[1]|[2][3])", "(*)", "([0]|*)", "(^2)", "([0]", "([0]|", "([0]|[1]", "(([0])", "([0]))", " [0]", "[0] ", "( )", "([0] [1])", "([0] | [1])", "[0] *", "[0]\n", "[0]\x00", "\x00", "[\x00]", "[0]^\x00", "[\xb0]", "[0]^\xff", "é",
		"[0]^²", "[٣]", strings.Repeat("(", 4000), strings.Repeat(")", 4000), strings.Repeat("[0]", 1333), strings.Repeat("(", 1999) + "[" + strings.Repeat(")", 2000), "(" + strings.Repeat("()", 1999), "[" + strings.Repeat("0", 3998) + "]",
		// What is too large as well.
		"(" + strings.Repeat("[0]", 401) + "]", "(" + strings.Repeat("()|", 600) + ")", strings.Repeat("(", 50) + strings.Repeat(")", 49),
	} {
		if x, e := expr.Parse(s); !isZero(x) || e != api.ErrSyntax {
			t.Errorf("%.60q: %v, %d", s, x, e)
		}
	}
}

// P8.1: a text of more than 4000 bytes is not looked at, and what a text describes can be too large.
func TestParseSizes(t *testing.T) {
	wide := "(" + strings.Repeat("[01234567]", 399) + ")"
	for i, c := range []struct {
		text string
		want api.Errno
	}{
		{wide, 0}, {wide + "????????", 0}, {wide + "?????????", api.ErrTooLarge}, {strings.Repeat("x", 4000), api.ErrSyntax}, {strings.Repeat("x", 4001), api.ErrTooLarge}, {strings.Repeat("(", 1<<20), api.ErrTooLarge},
		{"[0]" + strings.Repeat("*", 39), 0}, {"[0]" + strings.Repeat("*", 40), api.ErrTooLarge}, {"[0]" + strings.Repeat("^9", 1998), api.ErrTooLarge}, {strings.Repeat("(", 39) + "[0]" + strings.Repeat(")", 39), 0}, {strings.Repeat("(", 40) + "[0]" + strings.Repeat(")", 40), api.ErrTooLarge}, {strings.Repeat("(", 2000) + strings.Repeat(")", 2000), api.ErrTooLarge},
		{"(" + strings.Repeat("()", 499) + ")", 0}, {"(" + strings.Repeat("()", 500) + ")", api.ErrTooLarge}, {"(()" + strings.Repeat("|()", 498) + ")", 0}, {"(()" + strings.Repeat("|()", 499) + ")", api.ErrTooLarge}, {"(" + strings.Repeat("[]", 400) + ")", 0}, {"(" + strings.Repeat("[]", 401) + ")", api.ErrTooLarge},
		{"[0]^9^9", 0}, {"[0]^9^9^9", api.ErrTooLarge}, {"[0]^9^9^9^0", 0}, {"()^9^9^9", 0}, {"([0]^8^5^5[0]^8^5^5[0]^0)^1", 0}, {"([0]^8^5^5[0]^8^5^5[0]^1)^1", api.ErrTooLarge},
	} {
		x, e := expr.Parse(c.text)
		if e != c.want || e != api.OK && !isZero(x) {
			t.Errorf("row %d: %d", i, e)
		}
		if s, f := expr.Format(x); e == api.OK && (s != c.text || f != api.OK) {
			t.Errorf("row %d: %.60s, %d", i, s, f)
		}
	}
}

// P8.1: Format writes the text of every valid expression, even one that is too long for Parse.
func TestLongTexts(t *testing.T) {
	full := set("01234567")
	for i, c := range []struct {
		x    api.Expr
		want string
	}{
		{row(400, full), "(" + strings.Repeat("[01234567]", 400) + ")"}, {power(0, row(498, full)), "(" + strings.Repeat("[01234567]", 498) + ")^0"}, {power(0, alt(times(498, full)...)), "([01234567]" + strings.Repeat("|[01234567]", 497) + ")^0"},
	} {
		if s, e := expr.Format(c.x); s != c.want || e != api.OK {
			t.Errorf("row %d: %d bytes, %d", i, len(s), e)
		}
		if x, e := expr.Parse(c.want); !isZero(x) || e != api.ErrTooLarge {
			t.Errorf("row %d: %d", i, e)
		}
	}
}

// P8.1: no two lists of what Parse returns share memory.
func TestParseIsItsOwn(t *testing.T) {
	x := read(t, "(([0][1])*([0]|[1])?[0]^2([0][1])*)")
	kept := copied(x)
	for i := range x.Kids {
		scribble(x.Kids[i])
		for j := i + 1; j < len(x.Kids); j++ {
			if !isEqual(x.Kids[j], kept.Kids[j]) {
				t.Errorf("kids %d and %d share memory", i, j)
			}
		}
	}
}
