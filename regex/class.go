package regex

import "unicode/utf8"

// A class is a set of runes. A pattern names only bytes below 128, so it
// cannot tell the runes above them apart: a class has all of those or none.
type class struct {
	low  [2]uint64
	high bool
}

func everyRune() class {
	return class{}.others()
}

// between holds the bytes from first to last, both below 128.
func between(first, last byte) class {
	var c class
	for b := first; b <= last; b++ {
		c.low[b>>6] |= 1 << (b & 63)
	}
	return c
}

// bytesOf holds the bytes of a text, all of them below 128.
func bytesOf(text string) class {
	var c class
	for i := range len(text) {
		c = c.with(between(text[i], text[i]))
	}
	return c
}

func (c class) has(r rune) bool {
	if r >= utf8.RuneSelf {
		return c.high
	}
	return c.low[r>>6]>>(r&63)&1 == 1
}

func (c class) with(d class) class {
	return class{
		low:  [2]uint64{c.low[0] | d.low[0], c.low[1] | d.low[1]},
		high: c.high || d.high,
	}
}

func (c class) others() class {
	return class{low: [2]uint64{^c.low[0], ^c.low[1]}, high: !c.high}
}

// bothCases adds to each letter the same one in the other case.
func (c class) bothCases() class {
	for lower := byte('a'); lower <= 'z'; lower++ {
		upper := lower - 'a' + 'A'
		if c.has(rune(lower)) || c.has(rune(upper)) {
			c = c.with(between(lower, lower)).with(between(upper, upper))
		}
	}
	return c
}

// shorthand tells the class that a letter behind a backslash stands for.
func shorthand(letter byte) (class, bool) {
	switch letter {
	case 'd':
		return digits(), true
	case 'w':
		return wordBytes(), true
	case 's':
		return bytesOf(" \t\n\r"), true
	case 'D':
		return digits().others(), true
	case 'W':
		return wordBytes().others(), true
	case 'S':
		return bytesOf(" \t\n\r").others(), true
	}
	return class{}, false
}

func digits() class {
	return between('0', '9')
}

func wordBytes() class {
	return digits().with(between('a', 'z')).with(between('A', 'Z')).with(bytesOf("_"))
}
