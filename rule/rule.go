// Package rule makes of a rule what it does to the labels of a series.
package rule

import (
	"strings"

	"retag/api"
	"retag/regex"
	"retag/series"
)

// A Rule is what was made of one that is right.
type Rule struct {
	does func(labels *series.Labels) (kept bool)
}

// Apply rewrites labels; false means that the series is dropped.
func (r Rule) Apply(labels *series.Labels) bool {
	return r.does(labels)
}

// Make answers the first error by which a rule is not right; place is that of
// its Regex, if this is no pattern.
func Make(given api.Rule) (made Rule, errno api.Errno, place int) {
	if !isAction(given.Action) {
		return Rule{}, api.ErrAction, 0
	}
	uses := usedBy[given.Action]
	if isBig(given) {
		return Rule{}, api.ErrBig, 0
	}
	if !areNames(given.Sources) {
		return Rule{}, api.ErrSource, 0
	}
	pattern, place, ok := readUsed(given.Regex, uses.regex)
	if !ok {
		return Rule{}, api.ErrRegex, place
	}
	if uses.target && !isTarget(given) {
		return Rule{}, api.ErrTarget, 0
	}
	if hasUnused(given, uses) {
		return Rule{}, api.ErrField, 0
	}
	if uses.modulus && given.Modulus == 0 {
		return Rule{}, api.ErrModulus, 0
	}
	return Rule{does: meansOf(given, pattern).deed(given.Action)}, api.OK, 0
}

func readUsed(text string, used bool) (pattern *regex.Pattern, place int, ok bool) {
	if !used {
		return nil, 0, true
	}
	return regex.Read(text)
}

// meansOf copies what a rule works with: nothing that was handed in is kept.
func meansOf(given api.Rule, pattern *regex.Pattern) means {
	var sources []string
	for _, source := range given.Sources {
		sources = append(sources, strings.Clone(source))
	}
	return means{
		sources:     sources,
		separator:   strings.Clone(given.Separator),
		pattern:     pattern,
		target:      strings.Clone(given.Target),
		replacement: strings.Clone(given.Replacement),
		modulus:     given.Modulus,
	}
}
