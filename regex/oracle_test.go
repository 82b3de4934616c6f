package regex_test

import (
	"math/rand"
	"reflect"
	"strings"
	"testing"

	"retag/api"
	"retag/regex"
)

// A tree is a pattern that is made up together with its text, its weight and
// a matcher that tries one way after the other, as the document tells it.
type tree struct {
	text   string
	weight int
	match  func(s []rune, at int, groups map[int][2]int, then next) bool
}

type next func(at int, groups map[int][2]int) bool

type maker struct {
	random *rand.Rand
	groups int
	room   int // how many pieces may still come
	steps  int // what a match may still take
}

func (m *maker) expression(depth int) tree {
	branches := []tree{m.branch(depth)}
	for m.random.Intn(3) == 0 {
		branches = append(branches, m.branch(depth))
	}
	t := tree{text: branches[0].text, weight: branches[0].weight}
	for _, b := range branches[1:] {
		t.text += "|" + b.text
		t.weight += 1 + b.weight
	}
	t.match = func(s []rune, at int, groups map[int][2]int, then next) bool {
		for _, b := range branches {
			if b.match(s, at, groups, then) {
				return true
			}
		}
		return false
	}
	return t
}

func (m *maker) branch(depth int) tree {
	t := tree{match: func(_ []rune, at int, groups map[int][2]int, then next) bool { return then(at, groups) }}
	for m.room > 0 && m.random.Intn(4) != 0 {
		m.room--
		t = behind(t, m.piece(depth))
	}
	return t
}

func behind(first, second tree) tree {
	return tree{
		text:   first.text + second.text,
		weight: first.weight + second.weight,
		match: func(s []rune, at int, groups map[int][2]int, then next) bool {
			return first.match(s, at, groups, func(at int, groups map[int][2]int) bool {
				return second.match(s, at, groups, then)
			})
		},
	}
}

func (m *maker) piece(depth int) tree {
	atom := m.atom(depth)
	if m.random.Intn(2) == 0 {
		return atom
	}
	counts := []struct {
		text                  string
		least, most, heaviest int
	}{
		{"*", 0, -1, 1}, {"+", 1, -1, 2}, {"?", 0, 1, 1}, {"{0}", 0, 0, 0}, {"{2}", 2, 2, 2},
		{"{0,}", 0, -1, 1}, {"{2,}", 2, -1, 3}, {"{0,2}", 0, 2, 2}, {"{1,3}", 1, 3, 3},
	}
	c := counts[m.random.Intn(len(counts))]
	lazy := m.random.Intn(2) == 0
	t := tree{text: atom.text + c.text, weight: atom.weight*c.heaviest + 1}
	if lazy {
		t.text += "?"
	}
	t.match = func(s []rune, at int, groups map[int][2]int, then next) bool {
		return rounds(atom, c.least, c.most, lazy, s, at, groups, then)
	}
	return t
}

func rounds(atom tree, least, most int, lazy bool, s []rune, at int, groups map[int][2]int, then next) bool {
	more := func() bool {
		if most == 0 {
			return false
		}
		return atom.match(s, at, groups, func(end int, groups map[int][2]int) bool {
			if most < 0 && least == 0 && end == at {
				return false
			}
			return rounds(atom, max(least-1, 0), max(most-1, -1), lazy, s, end, groups, then)
		})
	}
	if least > 0 {
		return more()
	}
	if lazy {
		return then(at, groups) || more()
	}
	return more() || then(at, groups)
}

func (m *maker) atom(depth int) tree {
	if depth < api.MaxDepth && m.random.Intn(2) == 0 {
		return m.wrapped(depth)
	}
	if m.random.Intn(8) == 0 {
		return m.oneOf("[^b]", func(r rune) bool { return r != 'b' })
	}
	if m.random.Intn(8) == 0 {
		return m.oneOf(".", func(rune) bool { return true })
	}
	b := "ab"[m.random.Intn(2)]
	return m.oneOf(string(b), func(r rune) bool { return r == rune(b) })
}

func (m *maker) oneOf(text string, has func(rune) bool) tree {
	return tree{text: text, weight: 1, match: func(s []rune, at int, groups map[int][2]int, then next) bool {
		m.step()
		return at < len(s) && has(s[at]) && then(at+1, groups)
	}}
}

func (m *maker) wrapped(depth int) tree {
	if m.groups == api.MaxGroups || m.random.Intn(3) == 0 {
		t := m.expression(depth + 1)
		return tree{text: "(?:" + t.text + ")", weight: t.weight + 1, match: t.match}
	}
	m.groups++
	number := m.groups
	t := m.expression(depth + 1)
	match := func(s []rune, at int, groups map[int][2]int, then next) bool {
		m.step()
		return t.match(s, at, groups, func(end int, inner map[int][2]int) bool {
			outer := map[int][2]int{number: {at, end}}
			for n, span := range inner {
				if n != number {
					outer[n] = span
				}
			}
			return then(end, outer)
		})
	}
	return tree{text: "(" + t.text + ")", weight: t.weight + 1, match: match}
}

// tooLong stops the trying of one way after the other where that is hopeless.
type tooLong struct{}

func (m *maker) step() {
	if m.steps--; m.steps < 0 {
		panic(tooLong{})
	}
}

func (m *maker) spans(t tree, s string) (spans []api.Span, ok, done bool) {
	defer func() {
		if stop := recover(); stop != nil {
			if _, ours := stop.(tooLong); !ours {
				panic(stop)
			}
		}
	}()
	m.steps = 5000
	ok = t.match([]rune(s), 0, nil, func(at int, found map[int][2]int) bool {
		m.step()
		if at < len(s) {
			return false
		}
		spans = []api.Span{{From: 0, To: len(s)}}
		for n := range m.groups {
			span, there := found[n+1]
			if !there {
				span = [2]int{-1, -1}
			}
			spans = append(spans, api.Span{From: span[0], To: span[1]})
		}
		return true
	})
	return spans, ok, true
}

func TestMatchTakesTheFirstWay(t *testing.T) {
	random := rand.New(rand.NewSource(7))
	matched := 0
	for range 20000 {
		m := &maker{random: random, room: 12}
		made := m.expression(0)
		if len(made.text) > api.MaxPattern {
			continue
		}
		p, place, ok := regex.Read(made.text)
		if made.weight > api.MaxWeight {
			if ok || place != len(made.text) {
				t.Fatalf("Read(%q) = %d, %v: its weight is %d", made.text, place, ok, made.weight)
			}
			continue
		}
		if !ok || place != 0 {
			t.Fatalf("Read(%q) = %d, %v: its weight is %d", made.text, place, ok, made.weight)
		}
		for range 6 {
			s := randomText(random, "aab", 6)
			spans, want, done := m.spans(made, s)
			if !done {
				continue
			}
			found, got := p.Match(s)
			if got != want || !reflect.DeepEqual(found.Spans(), spans) {
				t.Fatalf("%q on %q: %v, %v, want %v, %v", made.text, s, found.Spans(), got, spans, want)
			}
			if got {
				matched++
			}
		}
	}
	if matched < 5000 {
		t.Errorf("only %d matches were compared", matched)
	}
}

func randomText(random *rand.Rand, letters string, longest int) string {
	var out strings.Builder
	for range random.Intn(longest + 1) {
		out.WriteByte(letters[random.Intn(len(letters))])
	}
	return out.String()
}
