package expr_test

import (
	"cmp"
	"maps"
	"math/rand"
	"slices"
	"strings"
	"testing"

	"anceps/api"
	"anceps/automaton"
	"anceps/expr"
)

// words is a set of words, written with digits.
type words map[string]bool

// languageOf returns the words of an expression, of letters below a number and of at most so many letters, by the definitions.
func languageOf(x api.Expr, letters, most int) words {
	switch x.Kind {
	case api.ExprSet:
		l := words{}
		for letter := range letters {
			if x.Set>>letter&1 == 1 && most > 0 {
				l[key([]int{letter})] = true
			}
		}
		return l
	case api.ExprAlt:
		l := words{}
		for _, kid := range x.Kids {
			maps.Copy(l, languageOf(kid, letters, most))
		}
		return l
	}
	l := words{"": true}
	if x.Kind == api.ExprSeq {
		for _, kid := range x.Kids {
			l = together(l, languageOf(kid, letters, most), most)
		}
		return l
	}
	kid := languageOf(x.Kids[0], letters, most)
	switch x.Kind {
	case api.ExprPower:
		for range x.N {
			l = together(l, kid, most)
		}
	case api.ExprOpt:
		maps.Copy(l, kid)
	case api.ExprStar:
		for found := 0; found < len(l); {
			found = len(l)
			maps.Copy(l, together(l, kid, most))
		}
	}
	return l
}

// together returns the words that consist of one of a and one of b.
func together(a, b words, most int) words {
	l := words{}
	for s := range a {
		for t := range b {
			if len(s)+len(t) <= most {
				l[s+t] = true
			}
		}
	}
	return l
}

// sorted returns words in their order.
func sorted(l words) []string {
	return slices.SortedFunc(maps.Keys(l), func(s, t string) int {
		return cmp.Or(cmp.Compare(len(s), len(t)), strings.Compare(s, t))
	})
}

// allWords returns all words over the letters below a number, of at most so many letters.
func allWords(letters, most int) [][]int {
	l := [][]int{nil}
	for i := 0; len(l[i]) < most; i++ {
		for letter := range letters {
			l = append(l, append(slices.Clone(l[i]), letter))
		}
	}
	return l
}

// smallOnes returns all expressions of at most so many nodes, with some Sets and Powers.
func smallOnes(nodes int) []api.Expr {
	sized := [][]api.Expr{nil, {seq(), set(""), set("0"), set("1"), set("01")}}
	for n := 2; n <= nodes; n++ {
		var l []api.Expr
		for _, kids := range kidsOf(sized, n-1) {
			l = append(l, seq(kids...))
			if len(kids) > 1 {
				l = append(l, alt(kids...))
				continue
			}
			l = append(l, star(kids...), opt(kids...))
			for power := range 4 {
				l = append(l, api.Expr{Kind: api.ExprPower, N: power, Kids: kids})
			}
		}
		sized = append(sized, l)
	}
	return slices.Concat(sized...)
}

// kidsOf returns all lists of expressions that have so many nodes together.
func kidsOf(sized [][]api.Expr, nodes int) [][]api.Expr {
	if nodes == 0 {
		return [][]api.Expr{nil}
	}
	var l [][]api.Expr
	for n := 1; n <= nodes; n++ {
		for _, rest := range kidsOf(sized, nodes-n) {
			for _, x := range sized[n] {
				l = append(l, append([]api.Expr{x}, rest...))
			}
		}
	}
	return l
}

// sampled returns any expression with few levels.
func sampled(r *rand.Rand, levels, letters int) api.Expr {
	if levels <= 1 || r.Intn(8) == 0 {
		return sampledLeaf(r, letters)
	}
	var kids []api.Expr
	for range r.Intn(4) {
		kids = append(kids, sampled(r, levels-1, letters))
	}
	kid := sampled(r, levels-1, letters)
	switch kids = append(kids, kid); r.Intn(7) {
	case 0:
		return star(kid)
	case 1:
		return opt(kid)
	case 2:
		return power(r.Intn(4), kid)
	case 3:
		return alt(append(kids, sampledLeaf(r, letters))...)
	default:
		return seq(kids...)
	}
}

func sampledLeaf(r *rand.Rand, letters int) api.Expr {
	if r.Intn(12) == 0 {
		return seq()
	}
	return api.Expr{Kind: api.ExprSet, Set: r.Intn(1 << letters)}
}

// samples returns valid expressions with up to 400 leaves, of up to so many letters.
func samples(letters int) []api.Expr {
	r := rand.New(rand.NewSource(8))
	var l []api.Expr
	for len(l) < 3000 {
		if x := sampled(r, 2+r.Intn(6), 1+r.Intn(letters)); expr.Valid(x) == api.OK {
			l = append(l, x)
		}
	}
	return l
}

// P8.1 and P8.2: Accepts, Nullable, Automaton, Words, Lengths, Reverse and the texts of all small expressions, compared with their words.
func TestSmallOnes(t *testing.T) {
	for _, x := range smallOnes(4) {
		compare(t, x, 2, 4)
	}
}

// P8.1 and P8.2: the same for samples of larger ones.
func TestSamples(t *testing.T) {
	for _, x := range samples(3) {
		compare(t, x, 3, 4)
	}
}

func compare(t *testing.T, x api.Expr, letters, most int) {
	t.Helper()
	kept := copied(x)
	s, e := expr.Format(x)
	want := languageOf(x, letters, most)
	compareWords(t, x, s, want, letters, most)
	compareAutomaton(t, x, s, want, letters, most)
	compareReverse(t, x, s, want, letters, most)
	compareLengths(t, x, s, want, most)
	if back, f := expr.Parse(s); len(s) <= 4000 && (!isEqual(back, x) || e != api.OK || f != api.OK) {
		t.Fatalf("%s: %d, %d", s, e, f)
	}
	if !isEqual(x, kept) {
		t.Fatalf("%s: the expression was changed", s)
	}
}

func compareWords(t *testing.T, x api.Expr, s string, want words, letters, most int) {
	t.Helper()
	for _, w := range allWords(letters, most) {
		if is, e := expr.Accepts(x, w); is != want[key(w)] || e != api.OK {
			t.Fatalf("%s, %v: %v, %d", s, w, is, e)
		}
	}
	if is, e := expr.Nullable(x); is != want[""] || e != api.OK {
		t.Fatalf("%s: nullable %v, %d", s, is, e)
	}
	for length := range most + 1 {
		for below := 1; below <= letters; below++ {
			l, e := expr.Words(x, below, length)
			found := []string{}
			for _, w := range l {
				found = append(found, key(w))
			}
			if !slices.Equal(found, sorted(languageOf(x, below, length))) || e != api.OK {
				t.Fatalf("%s, %d, %d: %v, %d", s, below, length, found, e)
			}
		}
	}
}

func compareAutomaton(t *testing.T, x api.Expr, s string, want words, letters, most int) {
	t.Helper()
	a, e := expr.Automaton(x, letters)
	if e == api.ErrTooLarge {
		return
	}
	if m, f := automaton.Minimal(a); !same(a, m) || a.Letters != letters || e != api.OK || f != api.OK {
		t.Fatalf("%s: %v, %d", s, a, e)
	}
	for _, w := range allWords(letters, most) {
		if automaton.Accepts(a, w) != want[key(w)] {
			t.Fatalf("%s: %v, %v", s, a, w)
		}
	}
}

func compareReverse(t *testing.T, x api.Expr, s string, want words, letters, most int) {
	t.Helper()
	r, e := expr.Reverse(x)
	back, f := expr.Reverse(r)
	if !isEqual(back, x) || e != api.OK || f != api.OK {
		t.Fatalf("%s: %v, %v", s, r, back)
	}
	backwards := words{}
	for s := range want {
		w := []byte(s)
		slices.Reverse(w)
		backwards[string(w)] = true
	}
	if !maps.Equal(languageOf(r, letters, most), backwards) {
		t.Fatalf("%s: %v", s, r)
	}
}

// compareLengths sees whether all words have lengths within Lengths.
func compareLengths(t *testing.T, x api.Expr, s string, want words, most int) {
	t.Helper()
	least, greatest, e := expr.Lengths(x)
	if e != api.OK && (e != api.ErrNone || len(want) > 0 || least != 0 || greatest != 0) {
		t.Fatalf("%s: %d, %d, %d", s, least, greatest, e)
	}
	for w := range want {
		if len(w) < least || greatest >= 0 && len(w) > greatest {
			t.Fatalf("%s: %s has not %d to %d letters", s, w, least, greatest)
		}
	}
}

// P8.1: Lengths are just those of the words. Of four nodes no power has more than 27 leaves, so that longer words come from a Star, with others that are as long again.
func TestSmallLengths(t *testing.T) {
	const most = 60
	for _, x := range smallOnes(4) {
		lengths := slices.Sorted(maps.Keys(lengthsOf(x, most)))
		least, greatest, e := expr.Lengths(x)
		if len(lengths) == 0 {
			if least != 0 || greatest != 0 || e != api.ErrNone {
				t.Fatalf("%v: %d, %d, %d", x, least, greatest, e)
			}
			continue
		}
		longest := lengths[len(lengths)-1]
		if longest > 27 {
			longest = -1
		}
		if least != lengths[0] || greatest != longest || e != api.OK {
			t.Fatalf("%v: %d, %d, %d instead of %d, %d", x, least, greatest, e, lengths[0], longest)
		}
	}
}

// lengthsOf returns the lengths of the words, up to the given one: those of the words of one letter, if all Sets that are not empty are this letter.
func lengthsOf(x api.Expr, most int) map[int]bool {
	lengths := map[int]bool{}
	for s := range languageOf(overOneLetter(x), 1, most) {
		lengths[len(s)] = true
	}
	return lengths
}

func overOneLetter(x api.Expr) api.Expr {
	x = copied(x)
	x.Set = min(x.Set, 1)
	for i, kid := range x.Kids {
		x.Kids[i] = overOneLetter(kid)
	}
	return x
}

// tree is an expression, written out, with the way from each leaf upwards.
type tree struct {
	x     api.Expr
	above *tree
	at    int // which of the kids of above it is
	kids  []*tree
	leaf  int
}

// written writes an expression out below a node, and adds its leaves.
func written(x api.Expr, above *tree, at int, leaves *[]*tree) *tree {
	n := &tree{x: x, above: above, at: at}
	kids := x.Kids
	switch x.Kind {
	case api.ExprSet:
		n.leaf = len(*leaves)
		*leaves = append(*leaves, n)
	case api.ExprPower:
		n.x.Kind = api.ExprSeq
		kids = times(x.N, x.Kids[0])
	}
	for i, kid := range kids {
		n.kids = append(n.kids, written(kid, n, i, leaves))
	}
	return n
}

// blank reports whether the empty word belongs to what is below a node.
func (n *tree) blank() bool {
	switch n.x.Kind {
	case api.ExprSet:
		return false
	case api.ExprSeq:
		return !slices.ContainsFunc(n.kids, func(kid *tree) bool { return !kid.blank() })
	case api.ExprAlt:
		return slices.ContainsFunc(n.kids, (*tree).blank)
	}
	return true
}

// first adds the leaves that can come first below a node.
func (n *tree) first(found map[int]bool) {
	if n.x.Kind == api.ExprSet {
		found[n.leaf] = true
	}
	for _, kid := range n.kids {
		kid.first(found)
		if n.x.Kind == api.ExprSeq && !kid.blank() {
			return
		}
	}
}

// next adds the leaves that can come directly behind what is below a node, and reports whether a word can end there.
func (n *tree) next(found map[int]bool) bool {
	if n.above == nil {
		return true
	}
	if n.above.x.Kind == api.ExprStar {
		n.first(found)
	}
	if n.above.x.Kind == api.ExprSeq {
		for _, kid := range n.above.kids[n.at+1:] {
			kid.first(found)
			if !kid.blank() {
				return false
			}
		}
	}
	return n.above.next(found)
}

// reachedSets returns an automaton of the sets of leaves that are reached, with the beginning as the state 0, and whether there are at most 400 of them.
func reachedSets(x api.Expr, letters int) (api.DFA, bool) {
	var leaves []*tree
	root := written(x, nil, 0, &leaves)
	first := map[int]bool{}
	root.first(first)
	next, ends := make([]map[int]bool, len(leaves)), make([]bool, len(leaves))
	for i, leaf := range leaves {
		next[i] = map[int]bool{}
		ends[i] = leaf.next(next[i])
	}
	d := api.DFA{Letters: letters}
	behind, accept := []map[int]bool{first}, []bool{root.blank()}
	numbers := map[string]int{}
	for state := 0; state < len(behind); state++ {
		if len(behind) > 400 {
			return api.DFA{}, false
		}
		row := slices.Repeat([]int{-1}, letters)
		for letter := range letters {
			name, after, end := "", map[int]bool{}, false
			for _, leaf := range slices.Sorted(maps.Keys(behind[state])) {
				if leaves[leaf].x.Set>>letter&1 == 1 {
					name += string(rune('a' + leaf))
					maps.Copy(after, next[leaf])
					end = end || ends[leaf]
				}
			}
			if name == "" {
				continue
			}
			if numbers[name] == 0 {
				numbers[name] = len(behind)
				behind, accept = append(behind, after), append(accept, end)
			}
			row[letter] = numbers[name]
		}
		d.Next = append(d.Next, row)
	}
	d.Accept = accept
	return d, true
}

// P8.1: Automaton is the minimal automaton of the sets of leaves, or there are too many of them.
func TestAutomatonByLeaves(t *testing.T) {
	found := map[api.Errno]int{}
	for _, x := range slices.Concat(smallOnes(4), samples(3), ambiguousOnes()) {
		a, e := expr.Automaton(x, 3)
		found[e]++
		d, few := reachedSets(x, 3)
		if !few {
			if !isZeroAutomaton(a) || e != api.ErrTooLarge {
				t.Fatalf("%v: %v, %d", x, a, e)
			}
			continue
		}
		if m, f := automaton.Minimal(d); !same(a, m) || e != api.OK || f != api.OK {
			t.Fatalf("%v: %v, %d instead of %v, %d", x, a, e, m, f)
		}
	}
	if found[api.OK] < 1000 || found[api.ErrTooLarge] < 100 {
		t.Errorf("compared only %v", found)
	}
}

// ambiguousOnes returns expressions with words of which many leaves can be the last one, so that they reach many sets.
func ambiguousOnes() []api.Expr {
	r := rand.New(rand.NewSource(88))
	pair := func() api.Expr { return set([]string{"01", "12", "02"}[r.Intn(3)]) }
	var l []api.Expr
	for len(l) < 1000 {
		kids := []api.Expr{star(set("012")), pair()}
		for range 4 + r.Intn(12) {
			kids = append(kids, []api.Expr{pair(), pair(), set("012"), opt(pair()), alt(pair(), set("")), seq(pair(), pair())}[r.Intn(6)])
		}
		if x := seq(append(kids, sampled(r, 3, 3))...); expr.Valid(x) == api.OK {
			l = append(l, x)
		}
	}
	return l
}

// textsOfSize returns for each size up to a limit all texts of expressions, with a few letters and powers.
func textsOfSize(most int, letters, powers string) [][]string {
	texts, rows, bars := make([][]string, most+1), make([][]string, most+1), make([][]string, most+1)
	rows[0] = []string{""}
	for size := 1; size <= most; size++ {
		texts[size] = setsOfSize(size, letters)
		if size >= 2 {
			for _, s := range append(slices.Clone(rows[size-2]), bars[size-2]...) {
				texts[size] = append(texts[size], "("+s+")")
			}
			for _, s := range texts[size-2] {
				for _, digit := range strings.Split(powers, "") {
					texts[size] = append(texts[size], s+"^"+digit)
				}
			}
		}
		for _, s := range texts[size-1] {
			texts[size] = append(texts[size], s+"*", s+"?")
		}
		for first := 1; first <= size; first++ {
			rows[size] = append(rows[size], pairs(texts[first], "", rows[size-first])...)
			if first < size {
				bars[size] = append(bars[size], pairs(texts[first], "|", append(slices.Clone(texts[size-first-1]), bars[size-first-1]...))...)
			}
		}
	}
	return texts
}

// setsOfSize returns the texts of Sets with letters of a list.
func setsOfSize(size int, letters string) []string {
	var l []string
	for set := range 1 << len(letters) {
		s := ""
		for i := range letters {
			if set>>i&1 == 1 {
				s += letters[i : i+1]
			}
		}
		if len(s)+2 == size {
			l = append(l, "["+s+"]")
		}
	}
	return l
}

func pairs(a []string, between string, b []string) []string {
	var l []string
	for _, s := range a {
		for _, t := range b {
			l = append(l, s+between+t)
		}
	}
	return l
}

// P8.1 and P8.2: of all short strings of some bytes Parse reads just the texts of expressions, and Format leads back to each one.
func TestAllTexts(t *testing.T) {
	for _, c := range []struct {
		bytes, letters, powers string
		most                   int
	}{{"[]()|^*?0179", "017", "0179", 5}, {"[]()|^*0", "0", "0", 7}, {"[]()|", "", "", 9}} {
		texts := map[string]bool{}
		for _, l := range textsOfSize(c.most, c.letters, c.powers) {
			for _, s := range l {
				texts[s] = true
			}
		}
		found := 0
		s := make([]byte, 0, c.most)
		var try func()
		try = func() {
			x, e := expr.Parse(string(s))
			if texts[string(s)] != (e == api.OK) || e != api.OK && e != api.ErrSyntax {
				t.Fatalf("%q: %v, %d", s, x, e)
			}
			if e == api.OK {
				found++
				if back, e := expr.Format(x); back != string(s) || e != api.OK {
					t.Fatalf("%q: %q, %d", s, back, e)
				}
			}
			for i := 0; i < len(c.bytes) && len(s) < c.most; i++ {
				s = append(s, c.bytes[i])
				try()
				s = s[:len(s)-1]
			}
		}
		try()
		if found < 20 {
			t.Errorf("%s: only %d texts", c.bytes, found)
		}
	}
}

// P8.2: a text that Parse accepts is that of its result, and Parse leads back from the text of every expression; also for texts with a byte changed.
func TestTextsLeadBack(t *testing.T) {
	r := rand.New(rand.NewSource(888))
	found := map[api.Errno]int{}
	for _, x := range samples(8) {
		s, e := expr.Format(x)
		if back, f := expr.Parse(s); len(s) <= 4000 && (!isEqual(back, x) || e != api.OK || f != api.OK) {
			t.Fatalf("%s: %v, %d, %d", s, back, e, f)
		}
		for range 5 {
			changed := []byte(s)
			changed[r.Intn(len(s))] = "[]()|^*?0123456789"[r.Intn(18)]
			y, e := expr.Parse(string(changed))
			found[e]++
			if back, f := expr.Format(y); e == api.OK && (back != string(changed) || f != api.OK) {
				t.Fatalf("%s: %s, %d", changed, back, f)
			}
		}
	}
	if found[api.OK] < 1000 || found[api.ErrSyntax] < 1000 {
		t.Errorf("compared only %v", found)
	}
}

// P8.2: the automaton of the reversed expression accepts the words of the automaton backwards.
func TestReversedAutomata(t *testing.T) {
	compared := 0
	for _, x := range samples(3) {
		r, _ := expr.Reverse(x)
		a, e := expr.Automaton(x, 3)
		b, f := expr.Automaton(r, 3)
		if e != api.OK || f != api.OK {
			continue
		}
		compared++
		for n := range 12 {
			forth, e := automaton.Count(a, n)
			back, f := automaton.Count(b, n)
			if forth != back || e != f {
				t.Fatalf("%v: %d and %d words of length %d", x, forth, back, n)
			}
		}
	}
	if compared < 1000 {
		t.Errorf("compared only %d", compared)
	}
}

// P1: the largest expressions are soon done.
func TestLargest(t *testing.T) {
	full := set("01234567")
	around := func(x api.Expr) api.Expr { return star(x) }
	for i, x := range []api.Expr{
		row(400, full), alt(times(400, full)...), star(alt(times(400, full)...)), power(8, row(50, opt(full))), power(8, star(row(50, opt(full)))), nested(39, row(400, full), around), nested(36, power(8, row(50, star(full))), around),
		power(9, power(8, power(5, star(set("01"))))), powers(3, opt(seq(star(set("01")), set("1"), full, full))), star(power(8, row(24, seq(opt(full), star(full))))), seq(star(full), power(8, row(49, opt(set("1")))), star(set(""))),
	} {
		if e := expr.Valid(x); e != api.OK {
			t.Fatalf("row %d: %d", i, e)
		}
		if _, e := expr.Accepts(x, slices.Repeat([]int{1}, 200)); e != api.OK {
			t.Errorf("Accepts %d: %d", i, e)
		}
		if _, e := expr.Automaton(x, 8); e != api.OK && e != api.ErrTooLarge {
			t.Errorf("Automaton %d: %d", i, e)
		}
		for letters := 1; letters <= 8; letters++ {
			if _, e := expr.Words(x, letters, 20); e != api.OK && e != api.ErrTooLarge {
				t.Errorf("Words %d: %d", i, e)
			}
		}
	}
}
