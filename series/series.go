// Package series holds the labels of a series, as they came and while rules
// rewrite them.
package series

import (
	"slices"
	"strings"

	"retag/api"
)

// A Series is the labels of one as they came: sorted by their names, each
// once, none with an empty value. Two that are equal are the same series, since
// each name and each value stands in a place of its own.
type Series struct {
	labels [api.MaxLabels]api.Label
	count  int
}

// Labels are those of a series that is rewritten, sorted in the same way.
type Labels struct {
	list []api.Label
}

// Read makes a series of a list; with an error there is none. It copies the
// texts, since a series may be remembered and nothing handed in is kept.
func Read(list []api.Label) (Series, api.Errno) {
	if len(list) > api.MaxLabels {
		return Series{}, api.ErrMany
	}
	if slices.ContainsFunc(list, isWrong) {
		return Series{}, api.ErrLabel
	}
	var labels Labels
	for _, label := range list {
		labels.Set(strings.Clone(label.Name), strings.Clone(label.Value))
	}
	var read Series
	read.count = copy(read.labels[:], labels.list)
	return read, api.OK
}

func isWrong(label api.Label) bool {
	return !IsName(label.Name) || len(label.Value) > api.MaxValue
}

// Labels tells those of a series, to be rewritten; the series stays.
func (s Series) Labels() *Labels {
	return &Labels{list: slices.Clone(s.labels[:s.count])}
}

// List tells the labels; the list is the caller's.
func (l *Labels) List() []api.Label {
	return slices.Clone(l.list)
}

// Value tells that of a label; the empty string if it is not there.
func (l *Labels) Value(name string) string {
	at, there := l.find(name)
	if !there {
		return ""
	}
	return l.list[at].Value
}

// Set takes the label away first: so the one that is there gets its new value
// even where there is no room for another.
func (l *Labels) Set(name, value string) {
	at, there := l.find(name)
	if there {
		l.list = slices.Delete(l.list, at, at+1)
	}
	if value == "" || len(l.list) == api.MaxSeries {
		return
	}
	l.list = slices.Insert(l.list, at, api.Label{Name: name, Value: cut(value)})
}

// cut copies what is left of a long value, lest the whole of it be kept.
func cut(value string) string {
	if len(value) > api.MaxValue {
		return strings.Clone(value[:api.MaxValue])
	}
	return value
}

// TakeAway takes the labels away whose names are chosen.
func (l *Labels) TakeAway(chosen func(name string) bool) {
	l.list = slices.DeleteFunc(l.list, func(label api.Label) bool {
		return chosen(label.Name)
	})
}

// find tells where a label is, or where it would belong.
func (l *Labels) find(name string) (at int, there bool) {
	return slices.BinarySearchFunc(l.list, name, func(label api.Label, name string) int {
		return strings.Compare(label.Name, name)
	})
}
