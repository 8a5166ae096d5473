package text_test

import (
	"math"
	"slices"
	"strings"
	"testing"

	"anceps/api"
	"anceps/text"
)

// P1.2: spans of words ascend, and between two words there is at least one byte.
func TestSpansAscend(t *testing.T) {
	for _, line := range samples(4) {
		spans, e := text.Words(line)
		if e != api.OK {
			continue
		}
		end := -1
		for i, s := range spans {
			if s.From <= end || s.To <= s.From || s.To > len(line) {
				t.Fatalf("%q: %v", line, spans)
			}
			if w, e := text.Word(line, i); e != api.OK || w != text.Fold(line[s.From:s.To]) {
				t.Fatalf("%q, word %d: %q, %d", line, i, w, e)
			}
			end = s.To
		}
	}
}

// P1.1: the spans cover the letters, and nothing else.
func TestSpansCoverLetters(t *testing.T) {
	for _, line := range samples(4) {
		spans, e := text.Words(line)
		if e != api.OK {
			continue
		}
		for i := range len(line) {
			covered := slices.ContainsFunc(spans, func(s api.Span) bool { return s.From <= i && i < s.To })
			if covered != strings.Contains(letters, line[i:i+1]) {
				t.Fatalf("%q, byte %d: %v", line, i, spans)
			}
		}
	}
}

// P1.2: Words finds the words that Join has put together.
func TestWordsFindsJoined(t *testing.T) {
	parts := []string{"a", "VIRUM", "th'", "(x)", letters[:40], fullLine}
	var lists [][]string
	for _, a := range parts {
		lists = append(lists, []string{a})
		for _, b := range parts {
			lists = append(lists, []string{a, b})
			for _, c := range parts {
				lists = append(lists, []string{a, b, c})
			}
		}
	}
	joined := 0
	for _, words := range append(lists, nil, slices.Repeat([]string{"a"}, 60)) {
		line, e := text.Join(words)
		if e != api.OK {
			continue
		}
		joined++
		spans, e := text.Words(line)
		var found []string
		for _, s := range spans {
			found = append(found, line[s.From:s.To])
		}
		if e != api.OK || !slices.Equal(found, words) {
			t.Errorf("%q: %q, %d", words, found, e)
		}
	}
	if joined < 50 {
		t.Errorf("only %d lists could be joined", joined)
	}
}

// P1.2: Lines and Text are inverse to one another, and accept no other texts and lists.
func TestLinesAndTextAreInverse(t *testing.T) {
	for _, s := range samples(5) {
		lines, e := text.Lines(s)
		if e != api.OK {
			continue
		}
		if back, e := text.Text(lines); back != s || e != api.OK {
			t.Fatalf("%q: %q, %d", s, back, e)
		}
	}
	parts := samples(2)
	for _, a := range parts {
		for _, b := range parts {
			list := []string{a, b}
			s, e := text.Text(list)
			if e != api.OK {
				continue
			}
			if back, e := text.Lines(s); !slices.Equal(back, list) || e != api.OK {
				t.Fatalf("%q: %q, %d", list, back, e)
			}
		}
	}
}

// P1.2: Same is an equivalence relation among lines.
func TestSameIsAnEquivalence(t *testing.T) {
	var lines []string
	for _, s := range append(samples(2), "a-A", "A a", "{a}.a", "a _", "A;_") {
		if text.Valid(s) == api.OK {
			lines = append(lines, s)
		}
	}
	for _, a := range lines {
		if !text.Same(a, a) {
			t.Errorf("not reflexive: %q", a)
		}
		for _, b := range lines {
			is := text.Same(a, b)
			if is != text.Same(b, a) {
				t.Errorf("not symmetric: %q, %q", a, b)
			}
			for _, c := range lines {
				if is && text.Same(b, c) && !text.Same(a, c) {
					t.Errorf("not transitive: %q, %q, %q", a, b, c)
				}
			}
		}
	}
}

// P1.2: Same does not depend on capitals and punctuation.
func TestSameIgnoresCapitalsAndPunctuation(t *testing.T) {
	words := []string{"arma", "virumque_", "cano", "troiae"}
	plain := strings.Join(words, " ")
	for _, p := range strings.Split(punctuation, "") {
		for _, line := range []string{strings.Join(words, p), p + strings.Join(words, p+" ") + p} {
			if !text.Same(plain, line) || !text.Same(strings.ToUpper(line), plain) {
				t.Errorf("%q differs", line)
			}
			if text.Same(plain, strings.Replace(line, "cano", "ca"+p+"no", 1)) {
				t.Errorf("%q within a word is ignored", p)
			}
		}
	}
}

// P1: no argument makes a function of this layer panic or change what it was given.
func TestNoPanic(t *testing.T) {
	large := strings.Repeat("Ab\x00\xff\n ", 100000)
	for _, s := range append(samples(3), large, large+"\n", strings.Repeat("\n", 100000)) {
		text.Valid(s)
		text.Words(s)
		for _, i := range []int{math.MinInt, -1, 0, 1, 2, 120, math.MaxInt} {
			text.Word(s, i)
		}
		text.Fold(s)
		text.Lines(s)
		text.Same(s, s)
		text.Same(s, "a")
		for _, list := range [][]string{nil, {s}, {"a", s}, {s, "a"}, slices.Repeat([]string{s}, 500)} {
			kept := slices.Clone(list)
			text.Join(list)
			text.Text(list)
			if !slices.Equal(list, kept) {
				t.Fatalf("a list was changed: %q", kept)
			}
		}
	}
}

// A result is new memory: changing it changes no later result.
func TestResultsAreNew(t *testing.T) {
	spans, _ := text.Words("arma virum")
	spans[0] = api.Span{}
	if again, _ := text.Words("arma virum"); again[0] != (api.Span{From: 0, To: 4}) {
		t.Errorf("%v", again)
	}
	lines, _ := text.Lines("arma\nvirum\n")
	lines[0] = ""
	if again, _ := text.Lines("arma\nvirum\n"); again[0] != "arma" {
		t.Errorf("%q", again)
	}
}
