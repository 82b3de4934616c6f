// Package memory holds what was answered for the series that came last.
package memory

import (
	"slices"

	"retag/api"
	"retag/series"
)

// An Answer is what became of a series: its labels, or that it was dropped.
type Answer struct {
	Labels []api.Label
	Kept   bool
}

// A Memory holds answers, and the turns in which their series came: where
// there is no room for one more, the oldest goes.
type Memory struct {
	answers map[series.Series]Answer
	turns   []series.Series
	room    int
}

// New makes a memory with room for so many answers, 1 or more.
func New(room int) *Memory {
	return &Memory{answers: map[series.Series]Answer{}, room: room}
}

// Recall tells the answer for a series; one that is not remembered is worked
// out. The list is a copy, so that nobody can write into what is remembered.
func (m *Memory) Recall(asked series.Series, workOut func(series.Series) Answer) Answer {
	answer, known := m.answers[asked]
	if !known {
		answer = workOut(asked)
		m.remember(asked, answer)
	}
	return Answer{Labels: slices.Clone(answer.Labels), Kept: answer.Kept}
}

func (m *Memory) remember(asked series.Series, answer Answer) {
	if len(m.turns) == m.room {
		delete(m.answers, m.turns[0])
		m.turns = slices.Delete(m.turns, 0, 1)
	}
	m.answers[asked] = answer
	m.turns = append(m.turns, asked)
}

// Forget leaves nothing remembered.
func (m *Memory) Forget() {
	clear(m.answers)
	m.turns = nil
}

// Count tells for how many series the answer is remembered.
func (m *Memory) Count() int {
	return len(m.answers)
}
