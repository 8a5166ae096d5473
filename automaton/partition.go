package automaton

import (
	"slices"

	"anceps/api"
)

// partition divides the live states into classes. Each class is a span of the order, in which its marked states stand first.
type partition struct {
	order, place, class []int // place is where a state stands in the order; class is none for states that are not live
	spans               []api.Span
	marked              []int // by class: how many of its states are marked
	touched             []int // the classes with marked states
}

// newPartition returns the classes of the live states that accept, and of those that do not.
func newPartition(accept, live []bool) *partition {
	p := &partition{place: make([]int, len(accept)), class: make([]int, len(accept))}
	for state := range accept {
		p.class[state] = none
	}
	for _, accepts := range []bool{true, false} {
		from := len(p.order)
		for state := range accept {
			if live[state] && accept[state] == accepts {
				p.place[state] = len(p.order)
				p.order = append(p.order, state)
			}
		}
		if len(p.order) > from {
			p.add(api.Span{From: from, To: len(p.order)})
		}
	}
	return p
}

// add makes a class of a span of the order.
func (p *partition) add(span api.Span) {
	for _, state := range p.order[span.From:span.To] {
		p.class[state] = len(p.spans)
	}
	p.spans = append(p.spans, span)
	p.marked = append(p.marked, 0)
}

// refine divides the classes until each letter leads from all states of a class to one class, or to no live state (Hopcroft's algorithm).
// Each class is used once as it is when its turn comes: if it is divided later, the part that becomes a new class, whose turn is still to come, tells apart what the other part does.
func (p *partition) refine(s sources) {
	for class := 0; class < len(p.spans); class++ {
		span := p.spans[class]
		targets := slices.Clone(p.order[span.From:span.To])
		for letter := range s.letters {
			for _, target := range targets {
				for _, state := range s.by(target, letter) {
					p.mark(state)
				}
			}
			p.divide()
		}
	}
}

// mark moves a state, which is not marked yet, to the marked ones of its class.
func (p *partition) mark(state int) {
	class := p.class[state]
	if p.marked[class] == 0 {
		p.touched = append(p.touched, class)
	}
	at := p.spans[class].From + p.marked[class]
	other := p.order[at]
	p.order[at], p.order[p.place[state]] = state, other
	p.place[other], p.place[state] = p.place[state], at
	p.marked[class]++
}

// divide parts the marked states from the other ones of their classes. The smaller part becomes a new class, so that a state changes its class only a few times.
func (p *partition) divide() {
	for _, class := range p.touched {
		span := p.spans[class]
		middle := span.From + p.marked[class]
		p.marked[class] = 0
		if middle == span.To {
			continue
		}
		first, second := api.Span{From: span.From, To: middle}, api.Span{From: middle, To: span.To}
		if first.To-first.From > second.To-second.From {
			first, second = second, first
		}
		p.spans[class] = second
		p.add(first)
	}
	p.touched = p.touched[:0]
}
