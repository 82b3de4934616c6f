// Package expand builds templates with what the groups of a match stand for.
package expand

import (
	"strconv"
	"strings"

	"retag/regex"
)

const maxDigits = 3

// Template builds a template with a match.
func Template(template string, found regex.Found) string {
	var out strings.Builder
	for rest := template; rest != ""; {
		text, size := first(rest, found)
		out.WriteString(text)
		rest = rest[size:]
	}
	return out.String()
}

// first tells what the beginning of a template stands for, and how long that
// beginning is.
func first(rest string, found regex.Found) (text string, size int) {
	if rest[0] != '$' {
		size = plainSize(rest)
		return rest[:size], size
	}
	if strings.HasPrefix(rest, "$$") {
		return "$", 2
	}
	if n := runSize(rest[1:]); n > 0 {
		return standsFor(rest[1:1+n], found), 1 + n
	}
	if n := bracedSize(rest[1:]); n > 0 {
		return standsFor(rest[2:2+n], found), n + 3
	}
	return "$", 1
}

func plainSize(rest string) int {
	if size := strings.IndexByte(rest, '$'); size >= 0 {
		return size
	}
	return len(rest)
}

// runSize tells how many letters, digits and _ a text begins with.
func runSize(text string) int {
	size := 0
	for size < len(text) && inRun(text[size]) {
		size++
	}
	return size
}

func inRun(b byte) bool {
	return b >= 'a' && b <= 'z' || b >= 'A' && b <= 'Z' || b == '_' || isDigit(b)
}

func isDigit(b byte) bool {
	return b >= '0' && b <= '9'
}

// bracedSize tells how long the run is, if a text begins with one in braces;
// else 0.
func bracedSize(text string) int {
	if !strings.HasPrefix(text, "{") {
		return 0
	}
	n := runSize(text[1:])
	if !strings.HasPrefix(text[1+n:], "}") {
		return 0
	}
	return n
}

func standsFor(run string, found regex.Found) string {
	if number, ok := groupNumber(run); ok {
		return found.Numbered(number)
	}
	return found.Named(run)
}

func groupNumber(run string) (int, bool) {
	if len(run) > maxDigits {
		return 0, false
	}
	for i := range len(run) {
		if !isDigit(run[i]) {
			return 0, false
		}
	}
	number, err := strconv.Atoi(run)
	return number, err == nil
}
