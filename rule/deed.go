package rule

import (
	"strconv"
	"strings"

	"retag/api"
	"retag/digest"
	"retag/expand"
	"retag/regex"
	"retag/series"
)

// means are what a rule works with, as far as its action uses it.
type means struct {
	sources     []string
	separator   string
	pattern     *regex.Pattern
	target      string
	replacement string
	modulus     uint64
}

// deed tells what an action does with its means; its answer is false if it
// drops the series.
func (m means) deed(action int) func(*series.Labels) bool {
	switch action {
	case api.Replace:
		return m.replace
	case api.Keep:
		return m.matches
	case api.Drop:
		return not(m.matches)
	case api.KeepEqual:
		return m.equals
	case api.DropEqual:
		return not(m.equals)
	case api.HashMod:
		return m.setTo(m.remainder)
	case api.LabelMap:
		return m.mapNames
	case api.LabelDrop:
		return m.dropNames
	case api.LabelKeep:
		return m.keepNames
	case api.Lowercase:
		return m.setTo(lower)
	}
	return m.setTo(upper)
}

// not keeps what is dropped otherwise, and drops the rest.
func not(deed func(*series.Labels) bool) func(*series.Labels) bool {
	return func(labels *series.Labels) bool { return !deed(labels) }
}

// setTo sets the target to what is made of the text.
func (m means) setTo(value func(text string) string) func(*series.Labels) bool {
	return func(labels *series.Labels) bool {
		labels.Set(m.target, value(m.text(labels)))
		return true
	}
}

func (m means) text(labels *series.Labels) string {
	var values []string
	for _, source := range m.sources {
		values = append(values, labels.Value(source))
	}
	return strings.Join(values, m.separator)
}

func (m means) replace(labels *series.Labels) bool {
	found, ok := m.pattern.Match(m.text(labels))
	if ok {
		setNamed(labels, expand.Template(m.target, found), expand.Template(m.replacement, found))
	}
	return true
}

// setNamed sets a label, if what was built is a name.
func setNamed(labels *series.Labels, built, value string) {
	if series.IsName(built) {
		labels.Set(built, value)
	}
}

func (m means) matches(labels *series.Labels) bool {
	return m.patternMatches(m.text(labels))
}

func (m means) patternMatches(text string) bool {
	_, ok := m.pattern.Match(text)
	return ok
}

func (m means) equals(labels *series.Labels) bool {
	return m.text(labels) == labels.Value(m.target)
}

// mapNames goes by a list of its own: what it sets must be nothing to the
// labels that are still to come.
func (m means) mapNames(labels *series.Labels) bool {
	for _, label := range labels.List() {
		if found, ok := m.pattern.Match(label.Name); ok {
			setNamed(labels, expand.Template(m.replacement, found), label.Value)
		}
	}
	return true
}

func (m means) dropNames(labels *series.Labels) bool {
	labels.TakeAway(m.patternMatches)
	return true
}

func (m means) keepNames(labels *series.Labels) bool {
	labels.TakeAway(func(name string) bool { return !m.patternMatches(name) })
	return true
}

func (m means) remainder(text string) string {
	return strconv.FormatUint(digest.Of(text)%m.modulus, 10)
}

func lower(text string) string {
	return shifted(text, 'A', 'a')
}

func upper(text string) string {
	return shifted(text, 'a', 'A')
}

// shifted goes byte by byte, since a text need not be whole runes, and those
// above 127 stay as they are.
func shifted(text string, from, to byte) string {
	out := []byte(text)
	for i, b := range out {
		if b >= from && b < from+26 {
			out[i] = b - from + to
		}
	}
	return string(out)
}
