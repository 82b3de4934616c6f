// Package series holds the labels of a series while rules rewrite them.
package series

import (
	"slices"
	"strings"

	"retag/api"
)

// Labels are those of one series: sorted by their names, each once, none with
// an empty value.
type Labels struct {
	list []api.Label
}

// Read makes the labels of a series of a list; with an error there are none.
func Read(list []api.Label) (*Labels, api.Errno) {
	if len(list) > api.MaxLabels {
		return nil, api.ErrMany
	}
	if slices.ContainsFunc(list, isWrong) {
		return nil, api.ErrLabel
	}
	labels := &Labels{}
	for _, label := range list {
		labels.Set(label.Name, label.Value)
	}
	return labels, api.OK
}

func isWrong(label api.Label) bool {
	return !IsName(label.Name) || len(label.Value) > api.MaxValue
}

// List tells the labels; the list is the caller's.
func (l *Labels) List() []api.Label {
	return slices.Clone(l.list)
}

// Value tells that of a label; the empty string if it is not there.
func (l *Labels) Value(name string) string {
	at, there := l.find(name)
	if !there {
		return ""
	}
	return l.list[at].Value
}

// Set takes the label away first: so the one that is there gets its new value
// even where there is no room for another.
func (l *Labels) Set(name, value string) {
	at, there := l.find(name)
	if there {
		l.list = slices.Delete(l.list, at, at+1)
	}
	if value == "" || len(l.list) == api.MaxSeries {
		return
	}
	value = value[:min(len(value), api.MaxValue)]
	l.list = slices.Insert(l.list, at, api.Label{Name: name, Value: value})
}

// TakeAway takes the labels away whose names are chosen.
func (l *Labels) TakeAway(chosen func(name string) bool) {
	l.list = slices.DeleteFunc(l.list, func(label api.Label) bool {
		return chosen(label.Name)
	})
}

// find tells where a label is, or where it would belong.
func (l *Labels) find(name string) (at int, there bool) {
	return slices.BinarySearchFunc(l.list, name, func(label api.Label, name string) int {
		return strings.Compare(label.Name, name)
	})
}
