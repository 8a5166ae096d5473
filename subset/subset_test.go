package subset_test

import (
	"slices"
	"testing"

	"anceps/api"
	"anceps/subset"
)

func TestMembers(t *testing.T) {
	for i, c := range []struct{ members, want []int }{
		{nil, nil}, {[]int{0}, []int{0}}, {[]int{447}, []int{447}}, {[]int{64, 63, 128, 0, 127, 447, 400, 63, 64}, []int{0, 63, 64, 127, 128, 400, 447}},
	} {
		s := subset.Of(c.members...)
		if !slices.Equal(s.Members(), c.want) || s.IsEmpty() != (len(c.want) == 0) {
			t.Errorf("row %d: %v", i, s.Members())
		}
		for member := range subset.Size {
			if s.Has(member) != slices.Contains(c.members, member) {
				t.Errorf("row %d: %d", i, member)
			}
		}
	}
}

func TestTogether(t *testing.T) {
	for i, c := range []struct{ a, b, or, and []int }{
		{nil, nil, nil, nil}, {[]int{3}, nil, []int{3}, nil}, {nil, []int{400}, []int{400}, nil}, {[]int{1, 64}, []int{0, 65}, []int{0, 1, 64, 65}, nil},
		{[]int{0, 63, 64, 447}, []int{0, 1, 64, 447}, []int{0, 1, 63, 64, 447}, []int{0, 64, 447}},
	} {
		a, b := subset.Of(c.a...), subset.Of(c.b...)
		if or, and := a.Or(b), a.And(b); or != subset.Of(c.or...) || and != subset.Of(c.and...) || a.Meets(b) != (len(c.and) > 0) {
			t.Errorf("row %d: %v, %v, %v", i, or.Members(), and.Members(), a.Meets(b))
		}
		if a != subset.Of(c.a...) || b != subset.Of(c.b...) {
			t.Errorf("row %d: a set was changed", i)
		}
	}
}

// The letter 0 leads one number on, up to the last one, and the letter 1 nowhere.
func TestAutomaton(t *testing.T) {
	for i, c := range []struct{ start, last, states int }{{-1, 0, 0}, {5, 5, 1}, {5, 7, 3}, {0, 399, 400}, {0, 400, -1}, {46, 446, -1}} {
		follow := func(s subset.Set, letter int) subset.Set {
			if l := s.Members(); letter == 0 && l[0] < c.last {
				return subset.Of(l[0] + 1)
			}
			return subset.Set{}
		}
		accepts := func(s subset.Set) bool { return s.Has(c.last) }
		var start subset.Set
		if c.start >= 0 {
			start.Add(c.start)
		}
		a, e := subset.Automaton(2, start, follow, accepts)
		if c.states < 0 {
			if e != api.ErrTooLarge || a.Letters != 0 || a.Next != nil || a.Accept != nil {
				t.Errorf("row %d: %v, %d", i, a, e)
			}
			continue
		}
		want := api.DFA{Letters: 2, Start: min(c.start, 0)}
		for state := range c.states {
			want.Next = append(want.Next, []int{state + 1, -1})
			want.Accept = append(want.Accept, false)
		}
		if c.states > 0 {
			want.Next[c.states-1][0], want.Accept[c.states-1] = -1, true
		}
		if a.Letters != 2 || a.Start != want.Start || !slices.EqualFunc(a.Next, want.Next, slices.Equal) || !slices.Equal(a.Accept, want.Accept) || e != api.OK {
			t.Errorf("row %d: %v, %d", i, a, e)
		}
	}
}
