package regex

import (
	"errors"
	"strings"
	"unicode/utf8"

	"retag/api"
)

const (
	special       = `\.+*?()|[]{}^$`   // what stands for itself only behind a backslash
	escapable     = `\.+*?()|[]{}^$-"` // what may stand behind a backslash for itself
	specialInSet  = `\[]^-`
	lastEscapable = '}' // the greatest byte of them
	maxGroupName  = 8
)

var errForm = errors.New("not the form of a pattern")

// A reader goes through a pattern byte by byte. It steps over a byte only if
// something of the form begins with all that it has stepped over; so where it
// gives up is the place to tell.
type reader struct {
	text   string
	at     int
	depth  int
	fold   bool
	groups int
	names  map[string]int
}

// readForm reads a whole pattern. It is the face behind which the reader
// gives up by a panic.
func readForm(text string) (r *reader, whole part, ok bool) {
	r = &reader{text: text, names: map[string]int{}}
	defer func() {
		if recover() != nil {
			whole, ok = part{}, false
		}
	}()
	r.foldMark()
	whole = r.expression()
	if !r.ended() {
		panic(errForm)
	}
	return r, whole, true
}

func (r *reader) foldMark() {
	const mark = "(?i"
	if strings.HasPrefix(r.text, mark) {
		r.at = len(mark)
		r.must(')')
		r.fold = true
	}
}

func (r *reader) ended() bool {
	return r.at == len(r.text)
}

// look tells the next byte, and gives up if there is none.
func (r *reader) look() byte {
	if r.ended() {
		panic(errForm)
	}
	return r.text[r.at]
}

func (r *reader) sees(b byte) bool {
	return !r.ended() && r.text[r.at] == b
}

func (r *reader) takes(b byte) bool {
	seen := r.sees(b)
	if seen {
		r.at++
	}
	return seen
}

func (r *reader) must(b byte) {
	if !r.takes(b) {
		panic(errForm)
	}
}

func (r *reader) expression() part {
	branches := []part{r.branch()}
	for r.takes('|') {
		branches = append(branches, r.branch())
	}
	return part{kind: choice, parts: branches}
}

func (r *reader) branch() part {
	var pieces []part
	for !r.ended() && !r.sees('|') && !r.sees(')') {
		pieces = append(pieces, r.piece())
	}
	return part{kind: sequence, parts: pieces}
}

func (r *reader) piece() part {
	atom := r.atom()
	least, most, ok := r.count()
	if !ok {
		return atom
	}
	lazy := r.takes('?')
	return part{kind: counted, parts: []part{atom}, least: least, most: most, lazy: lazy}
}

func (r *reader) count() (least, most int, ok bool) {
	switch {
	case r.takes('*'):
		return 0, endless, true
	case r.takes('+'):
		return 1, endless, true
	case r.takes('?'):
		return 0, 1, true
	case r.takes('{'):
		least, most = r.braces()
		return least, most, true
	}
	return 0, 0, false
}

func (r *reader) braces() (least, most int) {
	least = r.times(0)
	if r.takes('}') {
		return least, least
	}
	r.must(',')
	if r.takes('}') {
		return least, endless
	}
	most = r.times(least)
	r.must('}')
	return least, most
}

// times reads one digit from least to MaxTimes.
func (r *reader) times(least int) int {
	n := int(r.look()) - '0'
	if n < least || n > api.MaxTimes {
		panic(errForm)
	}
	r.at++
	return n
}

func (r *reader) atom() part {
	switch r.look() {
	case '(':
		return r.parentheses()
	case '[':
		return r.set()
	case '.':
		r.at++
		return part{kind: single, class: everyRune()}
	case '\\':
		r.at++
		escaped, _, _ := r.escape()
		return r.singleOf(escaped)
	}
	b := r.plain(special)
	return r.singleOf(between(b, b))
}

func (r *reader) singleOf(c class) part {
	if r.fold {
		c = c.bothCases()
	}
	return part{kind: single, class: c}
}

// plain reads a byte that stands for itself.
func (r *reader) plain(but string) byte {
	b := r.look()
	if b >= utf8.RuneSelf || strings.IndexByte(but, b) >= 0 {
		panic(errForm)
	}
	r.at++
	return b
}

// escape reads what follows a backslash; ok tells that it stands for a byte.
func (r *reader) escape() (c class, b byte, ok bool) {
	b = r.look()
	if strings.IndexByte(escapable, b) >= 0 {
		r.at++
		return between(b, b), b, true
	}
	c, known := shorthand(b)
	if !known {
		panic(errForm)
	}
	r.at++
	return c, 0, false
}

func (r *reader) parentheses() part {
	if r.depth == api.MaxDepth {
		panic(errForm)
	}
	r.must('(')
	r.depth++
	group := r.opening()
	inner := r.expression()
	r.must(')')
	r.depth--
	return part{kind: wrapped, parts: []part{inner}, group: group}
}

// opening reads what lies between a parenthesis and its expression, and tells
// the number of the group that it opens, 0 if it opens none.
func (r *reader) opening() int {
	full := r.groups == api.MaxGroups
	if !full && !r.sees('?') {
		r.groups++
		return r.groups
	}
	r.must('?')
	if r.takes(':') {
		return 0
	}
	if full {
		panic(errForm)
	}
	r.must('P')
	r.must('<')
	name := r.groupName()
	r.must('>')
	r.groups++
	r.names[strings.Clone(name)] = r.groups // a pattern keeps nothing of its text
	return r.groups
}

// groupName reads a name that no group has yet. A taken one may still go on to
// another, but for one that is as long as a name can be.
func (r *reader) groupName() string {
	from := r.at
	for r.at-from < maxGroupName && r.look() >= 'a' && r.look() <= 'z' {
		if r.at+1-from == maxGroupName && r.taken(r.text[from:r.at+1]) {
			panic(errForm)
		}
		r.at++
	}
	name := r.text[from:r.at]
	if name == "" || r.taken(name) {
		panic(errForm)
	}
	return name
}

func (r *reader) taken(name string) bool {
	_, ok := r.names[name]
	return ok
}

func (r *reader) set() part {
	r.must('[')
	inverted := r.takes('^')
	items := r.item()
	for !r.takes(']') {
		items = items.with(r.item())
	}
	p := r.singleOf(items)
	if inverted {
		p.class = p.class.others()
	}
	return p
}

func (r *reader) item() class {
	var first byte
	if r.takes('\\') {
		c, b, ok := r.escape()
		if !ok {
			return c
		}
		first = b
	} else {
		first = r.plain(specialInSet)
	}
	if !r.takes('-') {
		return between(first, first)
	}
	return between(first, r.pairEnd(first))
}

// pairEnd reads the second rune of a pair. A backslash is only stepped over if
// a byte that is great enough may follow it.
func (r *reader) pairEnd(first byte) byte {
	escaped := first <= lastEscapable && r.takes('\\')
	b := r.look()
	if b < first {
		panic(errForm)
	}
	if !escaped {
		return r.plain(specialInSet)
	}
	if strings.IndexByte(escapable, b) < 0 {
		panic(errForm)
	}
	r.at++
	return b
}
