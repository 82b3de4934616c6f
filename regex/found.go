package regex

import "retag/api"

// Found is a match: a string, and what the groups of a pattern stand for in it.
type Found struct {
	text  string
	spans []api.Span
	names map[string]int
}

// Spans tells the whole, and then each group; the list is the caller's.
func (f Found) Spans() []api.Span {
	return append([]api.Span(nil), f.spans...)
}

// Numbered tells what a group stands for, 0 being the whole; the empty string
// if there is no such group or it stands for nothing.
func (f Found) Numbered(n int) string {
	if n < 0 || n >= len(f.spans) || f.spans[n].From < 0 {
		return ""
	}
	return f.text[f.spans[n].From:f.spans[n].To]
}

// Named tells the same of the group of that name.
func (f Found) Named(name string) string {
	number, ok := f.names[name]
	if !ok {
		return ""
	}
	return f.Numbered(number)
}
