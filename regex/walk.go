package regex

// Whether the round of an endless count that lies closest around an
// instruction has stepped over a rune. (The rounds around that one need no
// mark: it ends only when it has moved, and then they have moved with it.)
const (
	still = iota
	moved
)

// A state is an instruction, and still or moved.
type state [2]int

// A way leads to an instruction that takes a rune, or accepts; the bits of
// slots tell which of them keep the place on the way.
type way struct {
	to    int
	slots uint
}

// A walk gathers, the first one first, the ways from one state on that step
// over no rune.
type walk struct {
	code []instruction
	seen map[state]struct{}
	ways []way
}

func waysFrom(code []instruction, from state) []way {
	w := &walk{code: code, seen: map[state]struct{}{}}
	w.visit(from, 0)
	return w.ways
}

// visit goes no further where an earlier way has been: what follows is the
// same, and that one goes first.
func (w *walk) visit(here state, slots uint) {
	if _, ok := w.seen[here]; ok {
		return
	}
	w.seen[here] = struct{}{}
	at, motion := here[0], here[1]
	in := w.code[at]
	switch in.op {
	case take, accept:
		w.ways = append(w.ways, way{to: at, slots: slots})
	case split:
		w.visit(state{in.to[0], motion}, slots)
		w.visit(state{in.to[1], motion}, slots)
	case jump:
		w.visit(state{in.to[0], motion}, slots)
	case note:
		w.visit(state{at + 1, motion}, slots|1<<in.slot)
	case begin:
		w.visit(state{at + 1, still}, slots)
	case end:
		if motion == moved {
			w.visit(state{at + 1, moved}, slots)
		}
	}
}
