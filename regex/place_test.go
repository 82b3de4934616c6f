package regex_test

import (
	"math/rand"
	"regexp"
	"strings"
	"testing"

	"retag/api"
	"retag/regex"
)

// The form, told a second time: by tokens, and what must hold between them.
const (
	escapedByte = `\\[\\.+*?()|\[\]{}^$"-]`
	setMember   = `(?:` + escapedByte + `|[\x00-,.-Z_-\x7f])`
	setItem     = `(?:\\[dwsDWS]|` + setMember + `-` + setMember + `|` + setMember + `)`
)

var (
	token = regexp.MustCompile(`^(?:` +
		`(?P<open>\((?:\?:|\?P<[a-z]{1,8}>)?)` +
		`|(?P<close>\))|(?P<bar>\|)` +
		`|(?P<count>(?:[*+?]|\{[0-9]\}|\{[0-9],\}|\{[0-9],[0-9]\})\??)` +
		`|(?P<set>\[\^?` + setItem + `+\])` +
		`|(?P<atom>\.|` + escapedByte + `|\\[dwsDWS]|[^\\.+*?()|\[\]{}^$\x80-\x{10ffff}])` +
		`)`)
	wholeSet  = regexp.MustCompile(`^\[\^?((?:` + setItem + `)+)\]$`)
	firstItem = regexp.MustCompile(`^` + setItem)
	pair      = regexp.MustCompile(`(?s)^(\\?.)-(\\?.)$`)
	braces    = regexp.MustCompile(`^\{(.),(.)\}`)
)

func hasForm(text string) bool {
	text = strings.TrimPrefix(text, "(?i)")
	depth, groups, countable := 0, 0, false
	names := map[string]bool{}
	for text != "" {
		found := token.FindStringSubmatch(text)
		if found == nil {
			return false
		}
		text = text[len(found[0]):]
		open, closed, count, set := found[1], found[2], found[4], found[5]
		before := countable
		countable = open == "" && found[3] == "" && count == ""
		switch {
		case open != "":
			if open != "(?:" {
				groups++
			}
			if depth++; depth > api.MaxDepth || groups > api.MaxGroups || names[open] {
				return false
			}
			names[open] = len(open) > 3
		case closed != "":
			if depth--; depth < 0 {
				return false
			}
		case count != "":
			if b := braces.FindStringSubmatch(count); !before || b != nil && b[2] < b[1] {
				return false
			}
		case set != "" && !pairsAscend(set):
			return false
		}
	}
	return depth == 0
}

func pairsAscend(set string) bool {
	items := wholeSet.FindStringSubmatch(set)[1]
	for items != "" {
		item := firstItem.FindString(items)
		items = items[len(item):]
		ends := pair.FindStringSubmatch(item)
		if ends != nil && ends[2][len(ends[2])-1] < ends[1][len(ends[1])-1] {
			return false
		}
	}
	return true
}

// begins tells whether something of the form begins with a text, by trying
// what may complete it.
func begins(text string) bool {
	for _, tail := range []string{"", "a", ":", "?:", "i)", ")", "1}", "9}", "}", ",}", ">", "q>", "<q>", "P<q>", "kk>", "]", "a]", "\x7f]", "\\}]", "}]", "d]"} {
		for closing := range api.MaxDepth + 1 {
			if hasForm(text + tail + strings.Repeat(")", closing)) {
				return true
			}
		}
	}
	return false
}

func TestPlaceIsWhereNothingOfTheFormBegins(t *testing.T) {
	random := rand.New(rand.NewSource(3))
	fragments := []string{"a", "z", "~", "}", "-", "\"", ",", ":", "<", ">", "P", "i", "1", "2", "9", "(", ")", "(", "()", "(?:", "(?", "(?P<", "(?P<x>", "(?P<xy>", "(?P<abcdefgh>", "abcdefg", "(?i)", "|", "*", "+", "?", "{", "{1", "{1,", "{2,1}", "{1,2}", "{3}", "[", "[a", "[^", "]", "\\", "\\d", "\\}", "\\-", "\\]", "^", "$", ".", "\x00", "\x7f", "é", "\xff", "[\x7f-", "[a-", "[\\d", "[\\.-", "w"}
	for range 800 {
		text := ""
		for range 1 + random.Intn(14) {
			longer := text + fragments[random.Intn(len(fragments))]
			if len(longer) <= api.MaxPattern && (begins(longer) || random.Intn(6) == 0) {
				text = longer
			}
		}
		_, place, ok := regex.Read(text)
		if ok != hasForm(text) {
			t.Fatalf("Read(%q) = %d, %v", text, place, ok)
		}
		want := 0
		for want < len(text) && begins(text[:want+1]) {
			want++
		}
		if !ok && place != want {
			t.Fatalf("Read(%q): the place is %d, want %d", text, place, want)
		}
	}
}
