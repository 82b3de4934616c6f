package regex

// An op is the kind of an instruction.
type op int

const (
	take   op = iota // steps over one rune of a class
	split            // goes on in two ways, the first of them first
	jump             // goes on elsewhere
	note             // keeps the place in a slot
	begin            // a round of an endless count begins
	end              // it ends, and fails if it stepped over no rune
	accept           // all of the pattern has matched
)

type instruction struct {
	op    op
	class class
	to    [2]int
	slot  int // two for each group: where it begins, where it ends
}

// A builder lays a program out of the parts of a pattern.
type builder struct {
	code []instruction
}

func programOf(whole part) []instruction {
	b := &builder{}
	b.add(whole)
	b.put(instruction{op: accept})
	return b.code
}

// put tells where the instruction has come to lie.
func (b *builder) put(in instruction) int {
	b.code = append(b.code, in)
	return len(b.code) - 1
}

func (b *builder) add(p part) {
	switch p.kind {
	case single:
		b.put(instruction{op: take, class: p.class})
	case sequence:
		for _, inner := range p.parts {
			b.add(inner)
		}
	case choice:
		b.addChoice(p.parts)
	case wrapped:
		b.addWrapped(p)
	case counted:
		b.addCounted(p)
	}
}

func (b *builder) addChoice(branches []part) {
	last := len(branches) - 1
	var jumps []int
	for _, branch := range branches[:last] {
		fork := b.fork(false)
		b.add(branch)
		jumps = append(jumps, b.put(instruction{op: jump}))
		b.leaveHere(fork, false)
	}
	b.add(branches[last])
	for _, at := range jumps {
		b.code[at].to[0] = len(b.code)
	}
}

func (b *builder) addWrapped(p part) {
	if p.group == 0 {
		b.add(p.parts[0])
		return
	}
	slot := 2 * (p.group - 1)
	b.put(instruction{op: note, slot: slot})
	b.add(p.parts[0])
	b.put(instruction{op: note, slot: slot + 1})
}

func (b *builder) addCounted(p part) {
	inner := p.parts[0]
	for range p.least {
		b.add(inner)
	}
	if p.most == endless {
		b.addLoop(inner, p.lazy)
		return
	}
	var forks []int
	for range p.most - p.least {
		forks = append(forks, b.fork(p.lazy))
		b.add(inner)
	}
	for _, fork := range forks {
		b.leaveHere(fork, p.lazy)
	}
}

func (b *builder) addLoop(inner part, lazy bool) {
	fork := b.fork(lazy)
	b.put(instruction{op: begin})
	b.add(inner)
	b.put(instruction{op: end})
	b.put(instruction{op: jump, to: [2]int{fork}})
	b.leaveHere(fork, lazy)
}

// fork puts a split between what follows at once and what leaveHere will name.
func (b *builder) fork(lazy bool) int {
	at := b.put(instruction{op: split})
	b.code[at].to[enters(lazy)] = at + 1
	return at
}

func (b *builder) leaveHere(fork int, lazy bool) {
	b.code[fork].to[1-enters(lazy)] = len(b.code)
}

// enters tells which of the two ways of a split goes in.
func enters(lazy bool) int {
	if lazy {
		return 1
	}
	return 0
}
