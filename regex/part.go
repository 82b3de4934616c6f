package regex

// A kind is what a part of a pattern is.
type kind int

const (
	single   kind = iota // one rune of a class
	sequence             // parts, one behind the other
	choice               // one of the parts, an earlier one first
	wrapped              // one part in parentheses
	counted              // one part, so many times
)

// endless is the most of a count that has no most.
const endless = -1

// A part is a piece of a pattern that was read, with what lies in it.
type part struct {
	kind        kind
	parts       []part
	class       class
	group       int // of parentheses: the group's number, 0 if they are none
	least, most int
	lazy        bool
}

func (p part) weight() int {
	sum := 0
	for _, inner := range p.parts {
		sum += inner.weight()
	}
	switch p.kind {
	case single, wrapped:
		return sum + 1
	case choice:
		return sum + len(p.parts) - 1
	case counted:
		return sum*p.copies() + 1
	}
	return sum
}

// copies is how often the counted part stands in the program: behind the
// least number of rounds an endless count needs one more to go round in.
func (p part) copies() int {
	if p.most == endless {
		return p.least + 1
	}
	return p.most
}
