// Package retag: labels of series, rewritten by rules: see DOC.md.
package retag

import (
	"retag/api"
	"retag/digest"
	"retag/expand"
	"retag/memory"
	"retag/regex"
	"retag/rule"
	"retag/series"
)

// Engine rewrites labels.
type Engine struct {
	rules  []rule.Rule
	memory *memory.Memory
}

// Match tells whether a pattern matches, and what its groups stand for (P3).
func Match(pattern string, s string) ([]api.Span, bool, api.Errno, int) {
	p, place, ok := regex.Read(pattern)
	if !ok {
		return nil, false, api.ErrRegex, place
	}
	found, ok := p.Match(s)
	return found.Spans(), ok, api.OK, 0
}

// Expand builds a template with a match (P4).
func Expand(pattern string, s string, template string) (string, api.Errno) {
	p, _, ok := regex.Read(pattern)
	if !ok {
		return "", api.ErrRegex
	}
	found, ok := p.Match(s)
	if !ok {
		return "", api.OK
	}
	return expand.Template(template, found), api.OK
}

// Hash tells the hash of a text (P4).
func Hash(s string) uint64 { return digest.Of(s) }

// Open makes an engine (P5).
func Open(cache int) *Engine {
	return &Engine{memory: memory.New(max(1, min(cache, api.MaxCache)))}
}

// Load gives an engine other rules (P5).
func (e *Engine) Load(rules []api.Rule) (api.Errno, int, int) {
	if len(rules) > api.MaxRules {
		return api.ErrMany, 0, 0
	}
	var all []rule.Rule
	for number, given := range rules {
		made, errno, place := rule.Make(given)
		if errno != api.OK {
			return errno, number, place
		}
		all = append(all, made)
	}
	e.rules = all
	e.memory.Forget()
	return api.OK, 0, 0
}

// Relabel rewrites the labels of a series (P6).
func (e *Engine) Relabel(labels []api.Label) ([]api.Label, bool, api.Errno) {
	asked, errno := series.Read(labels)
	if errno != api.OK {
		return nil, false, errno
	}
	answer := e.memory.Recall(asked, e.rewrite)
	return answer.Labels, answer.Kept, api.OK
}

func (e *Engine) rewrite(asked series.Series) memory.Answer {
	labels := asked.Labels()
	for _, r := range e.rules {
		if !r.Apply(labels) {
			return memory.Answer{}
		}
	}
	return memory.Answer{Labels: labels.List(), Kept: true}
}

// Flush forgets what was remembered (P7).
func (e *Engine) Flush() { e.memory.Forget() }

// Cached tells how much is remembered (P7).
func (e *Engine) Cached() int { return e.memory.Count() }
