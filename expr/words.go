package expr

import (
	"slices"

	"anceps/api"
	"anceps/subset"
)

// lister lists words over the letters below a number.
type lister struct {
	*machine
	letters int
	before  []subset.Set // by number: the leaves behind which a word can end after just so many letters
	word    []int
	words   [][]int
}

func newLister(x api.Expr, letters, most int) *lister {
	l := &lister{machine: newMachine(x), letters: letters}
	l.before = []subset.Set{l.ends}
	for range most {
		l.before = append(l.before, l.ahead(l.before[len(l.before)-1]))
	}
	return l
}

// ahead returns the leaves from which some letter leads to a leaf of a set.
func (l *lister) ahead(s subset.Set) subset.Set {
	var read subset.Set
	for _, leaves := range l.with[:l.letters] {
		read = read.Or(leaves.And(s))
	}
	var ahead subset.Set
	for leaf, next := range l.behind {
		if next.Meets(read) {
			ahead.Add(leaf)
		}
	}
	return ahead
}

// list adds the words that go on with just so many letters from a set of leaves, in lexicographic order. It reports whether there are not too many; sets that lead to no word are left out, so that it comes to one soon wherever it goes.
func (l *lister) list(s subset.Set, length int) bool {
	s = s.And(l.before[length])
	if s.IsEmpty() {
		return true
	}
	if length == 0 {
		l.words = append(l.words, slices.Clone(l.word))
		return len(l.words) <= maxWords
	}
	next := l.next(s)
	for letter := range l.letters {
		l.word = append(l.word, letter)
		if !l.list(next.And(l.with[letter]), length-1) {
			return false
		}
		l.word = l.word[:len(l.word)-1]
	}
	return true
}
