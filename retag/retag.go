// Package retag: labels of series, rewritten by rules: see DOC.md.
package retag

import (
	"retag/api"
	"retag/digest"
	"retag/expand"
	"retag/regex"
	"retag/rule"
	"retag/series"
)

// Engine rewrites labels.
type Engine struct {
	rules []rule.Rule
	cache int // how many series may be remembered
}

// Match tells whether a pattern matches, and what its groups stand for (P3).
func Match(pattern string, s string) ([]api.Span, bool, api.Errno, int) {
	p, place, ok := regex.Read(pattern)
	if !ok {
		return nil, false, api.ErrRegex, place
	}
	found, ok := p.Match(s)
	return found.Spans(), ok, api.OK, 0
}

// Expand builds a template with a match (P4).
func Expand(pattern string, s string, template string) (string, api.Errno) {
	p, _, ok := regex.Read(pattern)
	if !ok {
		return "", api.ErrRegex
	}
	found, ok := p.Match(s)
	if !ok {
		return "", api.OK
	}
	return expand.Template(template, found), api.OK
}

// Hash tells the hash of a text (P4).
func Hash(s string) uint64 { return digest.Of(s) }

// Open makes an engine (P5).
func Open(cache int) *Engine {
	return &Engine{cache: max(1, min(cache, api.MaxCache))}
}

// Load gives an engine other rules (P5).
func (e *Engine) Load(rules []api.Rule) (api.Errno, int, int) {
	if len(rules) > api.MaxRules {
		return api.ErrMany, 0, 0
	}
	var all []rule.Rule
	for number, given := range rules {
		made, errno, place := rule.Make(given)
		if errno != api.OK {
			return errno, number, place
		}
		all = append(all, made)
	}
	e.rules = all
	return api.OK, 0, 0
}

// Relabel rewrites the labels of a series (P6).
func (e *Engine) Relabel(labels []api.Label) ([]api.Label, bool, api.Errno) {
	rewritten, errno := series.Read(labels)
	if errno != api.OK {
		return nil, false, errno
	}
	for _, r := range e.rules {
		if !r.Apply(rewritten) {
			return nil, false, api.OK
		}
	}
	return rewritten.List(), true, api.OK
}

// Flush forgets what was remembered (P7).
func (e *Engine) Flush() {}

// Cached tells how much is remembered (P7).
func (e *Engine) Cached() int { return 0 }
