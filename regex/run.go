package regex

import "retag/api"

// places are where each group began and ended last; -1 if it did not.
type places [2 * api.MaxGroups]int

func unset() places {
	var slots places
	for i := range slots {
		slots[i] = -1
	}
	return slots
}

// A thread stands at an instruction that takes a rune, or accepts.
type thread struct {
	at    int
	slots places
}

// A run holds the threads of a pattern at one place of a string, those that
// are tried first at the front.
type run struct {
	pattern *Pattern
	now     []thread
	next    []thread
	reached []int // by instruction: the last place at which a thread came to it
}

func newRun(p *Pattern) *run {
	r := &run{pattern: p, reached: make([]int, len(p.code))}
	for i := range r.reached {
		r.reached[i] = -1
	}
	return r
}

// follow brings a thread to where its ways lead, but for where one that is
// tried earlier has come to already.
func (r *run) follow(ways []way, slots places, place int) {
	for _, w := range ways {
		if r.reached[w.to] == place {
			continue
		}
		r.reached[w.to] = place
		r.now = append(r.now, thread{at: w.to, slots: slots.marked(w.slots, place)})
	}
}

func (slots places) marked(bits uint, place int) places {
	for i := range slots {
		if bits>>i&1 == 1 {
			slots[i] = place
		}
	}
	return slots
}

// step takes a rune that ends at a place; false means that no thread is left.
func (r *run) step(taken rune, place int) bool {
	before := r.now
	r.now = r.next[:0]
	for _, t := range before {
		in := r.pattern.code[t.at]
		if in.op == take && in.class.has(taken) {
			r.follow(r.pattern.behind[t.at], t.slots, place)
		}
	}
	r.next = before
	return len(r.now) > 0
}

func (r *run) accepted() (places, bool) {
	for _, t := range r.now {
		if r.pattern.code[t.at].op == accept {
			return t.slots, true
		}
	}
	return places{}, false
}
