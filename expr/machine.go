package expr

import (
	"anceps/api"
	"anceps/subset"
)

// beginning stands for the leaf of a letter ahead of all words: so the beginning of a word is a set of leaves like any other.
const (
	beginning = 0
	noLetters = 0
)

// machine goes through words with the leaves of a valid expression, written out, and numbered from 1.
type machine struct {
	behind []subset.Set           // by leaf: those that can come directly behind it
	with   [maxLetters]subset.Set // by letter: the leaves that it can belong to
	ends   subset.Set             // the leaves with which a word can end
}

// part is what has to be known of a part of an expression to put it together with others.
type part struct {
	nullable    bool
	first, last subset.Set
}

func newMachine(x api.Expr) *machine {
	m := &machine{}
	ahead := m.leaf(noLetters) // its number is that of the beginning
	m.ends = m.seq(ahead, m.add(x)).last
	return m
}

// add adds the leaves of a valid expression behind those that there are.
func (m *machine) add(x api.Expr) part {
	switch x.Kind {
	case api.ExprSet:
		return m.leaf(x.Set)
	case api.ExprSeq:
		p := part{nullable: true}
		for _, kid := range x.Kids {
			p = m.seq(p, m.add(kid))
		}
		return p
	case api.ExprAlt:
		var p part
		for _, kid := range x.Kids {
			p = alt(p, m.add(kid))
		}
		return p
	case api.ExprPower:
		return m.power(x)
	}
	p := m.add(x.Kids[0])
	p.nullable = true
	if x.Kind == api.ExprStar {
		m.link(p.last, p.first)
	}
	return p
}

func (m *machine) leaf(letters int) part {
	leaf := len(m.behind)
	m.behind = append(m.behind, subset.Set{})
	for letter := range m.with {
		if letters>>letter&1 == 1 {
			m.with[letter].Add(leaf)
		}
	}
	only := subset.Of(leaf)
	return part{first: only, last: only}
}

// power adds the kid of a Power as often as it says. Without leaves it is the empty word however often that is, and powers of powers would be too long to go through.
func (m *machine) power(x api.Expr) part {
	p := part{nullable: true}
	if leaves(x) == 0 {
		return p
	}
	for range x.N {
		p = m.seq(p, m.add(x.Kids[0]))
	}
	return p
}

// seq puts two parts one behind the other.
func (m *machine) seq(p, q part) part {
	m.link(p.last, q.first)
	if p.nullable {
		p.first = p.first.Or(q.first)
	}
	if q.nullable {
		q.last = q.last.Or(p.last)
	}
	return part{nullable: p.nullable && q.nullable, first: p.first, last: q.last}
}

func alt(p, q part) part {
	return part{nullable: p.nullable || q.nullable, first: p.first.Or(q.first), last: p.last.Or(q.last)}
}

// link lets the leaves of the second set come directly behind those of the first one.
func (m *machine) link(from, to subset.Set) {
	for _, leaf := range from.Members() {
		m.behind[leaf] = m.behind[leaf].Or(to)
	}
}

func (m *machine) start() subset.Set {
	return subset.Of(beginning)
}

// next returns the leaves that can come directly behind those of a set.
func (m *machine) next(s subset.Set) subset.Set {
	var next subset.Set
	for _, leaf := range s.Members() {
		next = next.Or(m.behind[leaf])
	}
	return next
}

// follow returns the leaves to which a letter behind those of a set can belong.
func (m *machine) follow(s subset.Set, letter int) subset.Set {
	return m.next(s).And(m.with[letter])
}

func (m *machine) accepts(s subset.Set) bool {
	return s.Meets(m.ends)
}
