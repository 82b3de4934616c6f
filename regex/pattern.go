// Package regex reads patterns and matches strings with them. A pattern
// becomes a program; a string is matched by going all ways through it at
// once, rune by rune, in the order in which they would be tried one by one.
package regex

import (
	"unicode/utf8"

	"retag/api"
)

// A Pattern is what was made of a text that has the form and is not too heavy.
type Pattern struct {
	code   []instruction
	start  []way
	behind [][]way // by the instruction that takes a rune
	groups int
	names  map[string]int
}

// Read makes a pattern; if the text is none, ok is false and place tells how
// far it is good.
func Read(text string) (p *Pattern, place int, ok bool) {
	if len(text) > api.MaxPattern {
		return nil, api.MaxPattern, false
	}
	r, whole, ok := readForm(text)
	if !ok {
		return nil, r.at, false
	}
	if whole.weight() > api.MaxWeight {
		return nil, len(text), false
	}
	code := programOf(whole)
	return &Pattern{
		code:   code,
		start:  waysFrom(code, state{0, still}),
		behind: waysBehind(code),
		groups: r.groups,
		names:  r.names,
	}, 0, true
}

func waysBehind(code []instruction) [][]way {
	behind := make([][]way, len(code))
	for at, in := range code {
		if in.op == take {
			behind[at] = waysFrom(code, state{at + 1, moved})
		}
	}
	return behind
}

// Match tells whether the pattern matches all of a string, and how.
func (p *Pattern) Match(s string) (Found, bool) {
	run := newRun(p)
	run.follow(p.start, unset(), 0)
	for at := 0; at < len(s); {
		r, size := utf8.DecodeRuneInString(s[at:])
		at += size
		if !run.step(r, at) {
			return Found{}, false
		}
	}
	slots, ok := run.accepted()
	if !ok {
		return Found{}, false
	}
	return Found{text: s, spans: p.spans(slots, len(s)), names: p.names}, true
}

func (p *Pattern) spans(slots places, length int) []api.Span {
	spans := []api.Span{{From: 0, To: length}}
	for group := range p.groups {
		spans = append(spans, api.Span{From: slots[2*group], To: slots[2*group+1]})
	}
	return spans
}
