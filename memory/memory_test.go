package memory_test

import (
	"reflect"
	"strconv"
	"testing"

	"retag/api"
	"retag/memory"
	"retag/series"
)

// numbered is a series of its own for each number.
func numbered(t *testing.T, number int) series.Series {
	t.Helper()
	s, errno := series.Read([]api.Label{{Name: "n", Value: strconv.Itoa(number)}})
	if errno != api.OK {
		t.Fatalf("no series %d: %d", number, errno)
	}
	return s
}

// A worker counts how often an answer was worked out.
type worker struct {
	times int
}

func (w *worker) workOut(asked series.Series) memory.Answer {
	w.times++
	return memory.Answer{Labels: asked.Labels().List(), Kept: true}
}

func TestWhatIsRememberedIsNotWorkedOutAgain(t *testing.T) {
	m, w := memory.New(3), &worker{}
	for _, c := range []struct{ number, times int }{
		{1, 1}, {1, 1}, {2, 2}, {3, 3}, {1, 3}, {2, 3}, {3, 3}, // all have room
		{4, 4}, {2, 4}, {3, 4}, {4, 4}, // 1, the oldest, has gone, though it was asked for again
		{1, 5}, {3, 5}, {4, 5}, {1, 5}, {2, 6}, {4, 6}, {1, 6}, {3, 7},
	} {
		answer := m.Recall(numbered(t, c.number), w.workOut)
		want := []api.Label{{Name: "n", Value: strconv.Itoa(c.number)}}
		if w.times != c.times || !answer.Kept || !reflect.DeepEqual(answer.Labels, want) {
			t.Errorf("Recall of %d: %v, worked out %d times in all, want %d", c.number, answer, w.times, c.times)
		}
	}
}

func TestDroppedSeriesIsRemembered(t *testing.T) {
	m, times := memory.New(1), 0
	for range 3 {
		answer := m.Recall(numbered(t, 1), func(series.Series) memory.Answer {
			times++
			return memory.Answer{}
		})
		if len(answer.Labels) != 0 || answer.Kept || times != 1 || m.Count() != 1 {
			t.Errorf("%v, worked out %d times, %d remembered", answer, times, m.Count())
		}
	}
}

func TestCountAndForget(t *testing.T) {
	for room := 1; room <= api.MaxCache; room++ {
		m, w := memory.New(room), &worker{}
		for range 3 {
			if m.Count() != 0 {
				t.Fatalf("room for %d: %d are remembered of none", room, m.Count())
			}
			for number := range 2*room + 1 {
				m.Recall(numbered(t, number), w.workOut)
				m.Recall(numbered(t, number), w.workOut)
				if want := min(number+1, room); m.Count() != want {
					t.Errorf("room for %d: %d are remembered, want %d", room, m.Count(), want)
				}
			}
			m.Forget()
		}
		if w.times != 3*(2*room+1) {
			t.Errorf("room for %d: worked out %d times", room, w.times)
		}
	}
}

func TestAnswersAreTheCallers(t *testing.T) {
	m := memory.New(1)
	worked := []api.Label{{Name: "a", Value: "1"}, {Name: "b", Value: "2"}}
	workOut := func(series.Series) memory.Answer { return memory.Answer{Labels: worked, Kept: true} }
	for range 3 {
		got := m.Recall(numbered(t, 1), workOut).Labels
		if !reflect.DeepEqual(got, []api.Label{{Name: "a", Value: "1"}, {Name: "b", Value: "2"}}) {
			t.Errorf("the answer has become %v", got)
		}
		room := got[:cap(got)]
		for i := range room {
			room[i] = api.Label{Name: "x", Value: "x"}
		}
	}
}
