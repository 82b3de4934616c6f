package retag_test

import (
	"reflect"
	"strings"
	"testing"

	"retag/api"
	"retag/retag"
)

// spans takes from, to, from, to and so on.
func spans(ends ...int) []api.Span {
	var out []api.Span
	for i := 0; i < len(ends); i += 2 {
		out = append(out, api.Span{From: ends[i], To: ends[i+1]})
	}
	return out
}

func TestMatch(t *testing.T) {
	for _, c := range []struct {
		pattern, s string
		want       []api.Span
	}{
		{"(a+)(b*)", "aab", spans(0, 3, 0, 2, 2, 3)},
		{"(a*?)(a*)", "aa", spans(0, 2, 0, 0, 0, 2)},
		{"(a|ab)(c|bcd)?", "abcd", spans(0, 4, 0, 1, 1, 4)},
		{"(?:(a)|b)*", "ab", spans(0, 2, 0, 1)},
		{"(?:(a?)(b)??)*", "ab", spans(0, 2, 1, 1, 1, 2)},
		{"(|a)*", "a", spans(0, 1, 0, 1)},
		{"(|a)?", "a", spans(0, 1, 0, 1)},
		{"(|a)?", "", spans(0, 0, 0, 0)},
		{".", "\xff", spans(0, 1)},
		{".", "é", spans(0, 2)},
		{"(a)|(b)|(c)|(d)|(e)", "c", spans(0, 1, -1, -1, -1, -1, 0, 1, -1, -1, -1, -1)},
	} {
		got, ok, errno, place := retag.Match(c.pattern, c.s)
		if !reflect.DeepEqual(got, c.want) || !ok || errno != api.OK || place != 0 {
			t.Errorf("Match(%q, %q) = %v, %v, %d, %d, want %v", c.pattern, c.s, got, ok, errno, place, c.want)
		}
	}
}

func TestMatchThatIsNone(t *testing.T) {
	for _, pattern := range []string{"", "b", "(a)(a)", "(a*)b", "[^a]", "(?i)B"} {
		got, ok, errno, place := retag.Match(pattern, "a")
		if len(got) != 0 || ok || errno != api.OK || place != 0 {
			t.Errorf("Match(%q) = %v, %v, %d, %d", pattern, got, ok, errno, place)
		}
	}
}

func TestMatchByNoPattern(t *testing.T) {
	for pattern, want := range map[string]int{
		"a**": 2, "(a": 2, "a)": 1, "a{2,1}": 4, "[b-a]": 3, "[]": 1, "(?P<x>a)(?P<x>b)": 13, "\\q": 1, "(?i": 3,
		"é": 0, strings.Repeat("(", 61): 60, strings.Repeat("é", 1000): 60, "((a{9}){9}){2}": 14,
	} {
		for _, s := range []string{"", "a", "aa"} {
			got, ok, errno, place := retag.Match(pattern, s)
			if len(got) != 0 || ok || errno != api.ErrRegex || place != want {
				t.Errorf("Match(%q, %q) = %v, %v, %d, %d, want %d", pattern, s, got, ok, errno, place, want)
			}
		}
	}
}

func TestAnswersAreNewMemory(t *testing.T) {
	want := spans(0, 2, 0, 1, 1, 2)
	first, _, _, _ := retag.Match("(a)(b)", "ab")
	second, _, _, _ := retag.Match("(a)(b)", "ab")
	for _, got := range [][]api.Span{first, second} {
		if !reflect.DeepEqual(got, want) {
			t.Errorf("%v, want %v", got, want)
		}
		room := got[:cap(got)]
		for i := range room {
			room[i] = api.Span{From: 7, To: 7}
		}
	}
	if third, _, _, _ := retag.Match("(a)(b)", "ab"); !reflect.DeepEqual(third, want) {
		t.Errorf("%v, want %v", third, want)
	}
}

func TestExpand(t *testing.T) {
	for _, c := range []struct{ pattern, s, template, want string }{
		{"(?P<x>a)(b)?", "a", "<$1-${x}-$2-$9-$xy-$$-$->", "<a-a----$-$->"},
		{"(.*)=(.*)", "k=v", "$2=$1 of $0", "v=k of k=v"},
		{"(?:(a)|b)*", "ab", "$1", "a"},
		{"(.)(.)", "é\xff", "$2$1", "\xffé"},
		{"a", "b", "x$0", ""},
		{"a", "a", "", ""},
	} {
		if got, errno := retag.Expand(c.pattern, c.s, c.template); got != c.want || errno != api.OK {
			t.Errorf("Expand(%q, %q, %q) = %q, %d, want %q", c.pattern, c.s, c.template, got, errno, c.want)
		}
	}
	for _, pattern := range []string{"a**", "(", strings.Repeat("a", 61), "((a{9}){9}){2}"} {
		if got, errno := retag.Expand(pattern, "a", "x"); got != "" || errno != api.ErrRegex {
			t.Errorf("Expand by %q = %q, %d", pattern, got, errno)
		}
	}
}

func TestHash(t *testing.T) {
	for s, want := range map[string]uint64{
		"": 14695981039346656037, "a": 12638187200555641996, "foobar": 0x85944171f73967e8, "\xff\x00": 0xa99a607b6f60bea,
	} {
		if got := retag.Hash(s); got != want {
			t.Errorf("Hash(%q) = %#x, want %#x", s, got, want)
		}
	}
}
