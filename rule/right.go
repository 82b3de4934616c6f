package rule

import (
	"slices"

	"retag/api"
	"retag/series"
)

// A use tells what an action uses of a rule; text is Sources and Separator.
type use struct {
	text, regex, target, replacement, modulus bool
}

var usedBy = [...]use{
	api.Replace:   {text: true, regex: true, target: true, replacement: true},
	api.Keep:      {text: true, regex: true},
	api.Drop:      {text: true, regex: true},
	api.KeepEqual: {text: true, target: true},
	api.DropEqual: {text: true, target: true},
	api.HashMod:   {text: true, target: true, modulus: true},
	api.LabelMap:  {regex: true, replacement: true},
	api.LabelDrop: {regex: true},
	api.LabelKeep: {regex: true},
	api.Lowercase: {text: true, target: true},
	api.Uppercase: {text: true, target: true},
}

func isAction(action int) bool {
	return action >= 0 && action < len(usedBy)
}

func isBig(given api.Rule) bool {
	return len(given.Sources) > api.MaxSources ||
		slices.ContainsFunc(given.Sources, isLong) ||
		isLong(given.Separator) || isLong(given.Target) || isLong(given.Replacement)
}

func isLong(text string) bool {
	return len(text) > api.MaxText
}

func areNames(texts []string) bool {
	for _, text := range texts {
		if !series.IsName(text) {
			return false
		}
	}
	return true
}

// isTarget asks little of Replace: only what is built of its Target can be a
// name.
func isTarget(given api.Rule) bool {
	if given.Action == api.Replace {
		return given.Target != ""
	}
	return series.IsName(given.Target)
}

func hasUnused(given api.Rule, uses use) bool {
	return !uses.text && (len(given.Sources) > 0 || given.Separator != "") ||
		!uses.regex && given.Regex != "" ||
		!uses.target && given.Target != "" ||
		!uses.replacement && given.Replacement != "" ||
		!uses.modulus && given.Modulus != 0
}
