package regex_test

import (
	"fmt"
	"strings"
	"testing"

	"retag/api"
	"retag/regex"
)

// told writes a match as "0-3 0-2 -", "none" if there is none.
func told(t *testing.T, pattern, s string) string {
	t.Helper()
	p, place, ok := regex.Read(pattern)
	if !ok {
		return fmt.Sprint("no pattern: ", place)
	}
	found, ok := p.Match(s)
	if !ok {
		return "none"
	}
	var out []string
	for _, span := range found.Spans() {
		if span == (api.Span{From: -1, To: -1}) {
			out = append(out, "-")
		} else {
			out = append(out, fmt.Sprintf("%d-%d", span.From, span.To))
		}
	}
	return strings.Join(out, " ")
}

type matchCase struct{ pattern, s, want string }

func checkMatches(t *testing.T, cases []matchCase) {
	t.Helper()
	for _, c := range cases {
		if got := told(t, c.pattern, c.s); got != c.want {
			t.Errorf("%q on %.40q: %s, want %s", c.pattern, c.s, got, c.want)
		}
	}
}

func TestMatchesAllOfTheString(t *testing.T) {
	checkMatches(t, []matchCase{
		{"", "", "0-0"}, {"", "a", "none"}, {"ab", "ab", "0-2"}, {"ab", "abc", "none"}, {"ab", "cab", "none"},
		{"a|ab", "ab", "0-2"}, {"a|b|", "", "0-0"}, {"(?:a|b)c", "bc", "0-2"}, {"a|bc", "ac", "none"},
	})
}

func TestBranchesAndEarlierPiecesGoFirst(t *testing.T) {
	checkMatches(t, []matchCase{
		{"(a|ab)(c|bcd)?", "abcd", "0-4 0-1 1-4"}, {"(ab|a)(bc|c)", "abc", "0-3 0-2 2-3"},
		{"(a)|(a)", "a", "0-1 0-1 -"}, {"(a|ab)(b|)", "ab", "0-2 0-1 1-2"}, {"(|a)(a|)", "a", "0-1 0-0 0-1"},
		{"(a*)(a*)", "aa", "0-2 0-2 2-2"}, {"(a?)(a?)", "a", "0-1 0-1 1-1"},
	})
}

func TestCounts(t *testing.T) {
	checkMatches(t, []matchCase{
		{"a*", "", "0-0"}, {"a+", "", "none"}, {"a+", "aaa", "0-3"}, {"a?", "aa", "none"},
		{"a{0}", "", "0-0"}, {"a{0}", "a", "none"}, {"a{3}", "aa", "none"}, {"a{3}", "aaa", "0-3"}, {"a{3}", "aaaa", "none"},
		{"a{2,}", "a", "none"}, {"a{2,}", "aa", "0-2"}, {"a{2,}", "aaaaaaaaaaaa", "0-12"},
		{"a{1,3}", "", "none"}, {"a{1,3}", "aaa", "0-3"}, {"a{1,3}", "aaaa", "none"}, {"a{9}", "aaaaaaaaa", "0-9"},
		{"(a{1,3})(a*)", "aaaa", "0-4 0-3 3-4"}, {"(a{1,3}?)(a*)", "aaaa", "0-4 0-1 1-4"},
		{"(a*?)(a*)", "aa", "0-2 0-0 0-2"}, {"(a+?)(a*)", "aa", "0-2 0-1 1-2"}, {"(a??)(a?)", "a", "0-1 0-0 0-1"},
		{"(a{2}?)(a*)", "aaa", "0-3 0-2 2-3"}, {"(a{1,}?)(a*)", "aaa", "0-3 0-1 1-3"}, {"(a{0,2}?)(a)", "aaa", "0-3 0-2 2-3"},
	})
}

func TestRoundsThatMatchNothing(t *testing.T) {
	checkMatches(t, []matchCase{
		{"(?:(a?)(b)??)*", "ab", "0-2 1-1 1-2"}, {"(?:(a?)(b)?)*", "ab", "0-2 0-1 1-2"},
		{"(|a)*", "a", "0-1 0-1"}, {"(|a)*", "", "0-0 -"}, {"(|a)*?", "a", "0-1 0-1"},
		{"(|a)+", "", "0-0 0-0"}, {"(|a)+", "a", "0-1 0-1"}, {"(?:()|a)+", "a", "0-1 0-0"},
		{"(|a){1,}", "a", "0-1 0-1"}, {"(|a){2,}", "", "0-0 0-0"}, {"(){0,}", "", "0-0 -"},
		{"(|a)?", "a", "0-1 0-1"}, {"(|a)?", "", "0-0 0-0"}, {"(|a)??", "", "0-0 -"},
		{"(|a){0,2}", "", "0-0 0-0"}, {"(|a){0,2}", "a", "0-1 0-1"}, {"(|a){2}", "a", "0-1 0-1"},
		{"((a*)*)*", "aa", "0-2 0-2 0-2"}, {"((a*)+)*", "", "0-0 - -"}, {"((a*)*)+", "", "0-0 0-0 -"},
		{"(?:(a*?)*(b?))*", "ab", "0-2 0-1 1-2"},
	})
}

func TestGroupsInRounds(t *testing.T) {
	checkMatches(t, []matchCase{
		{"(?:(a)|b)*", "ab", "0-2 0-1"}, {"(?:(a)|b)*", "ba", "0-2 1-2"}, {"(?:(a)|(b))*", "aba", "0-3 2-3 1-2"},
		{"(?:(a)|(b)|c){3}", "abc", "0-3 0-1 1-2"}, {"(a|b)*", "abb", "0-3 2-3"}, {"(a)?b", "b", "0-1 -"},
		{"(?:(a)b|ac)", "ac", "0-2 -"}, {"((a)|(b))*", "ab", "0-2 1-2 0-1 1-2"}, {"(a){0}", "", "0-0 -"},
	})
}

func TestNeedsNoWayTwice(t *testing.T) {
	long := strings.Repeat("a", 5000)
	checkMatches(t, []matchCase{
		{"(?:(?:(?:a*)*)*)*b", long, "none"}, {"(a|a|aa)*", long, "0-5000 4999-5000"},
		{"(?:a?){9}a{9}", "aaaaaaaaa", "0-9"}, {"(?:.{0,9}.{0,9}.{0,9})*b", long, "none"},
	})
}

func TestStringsAreRunes(t *testing.T) {
	checkMatches(t, []matchCase{
		{".", "é", "0-2"}, {".", "€", "0-3"}, {".", "\U0001F600", "0-4"}, {".", "\uFFFD", "0-3"}, {".", "\n", "0-1"}, {".", "\x00", "0-1"},
		{".", "\xff", "0-1"}, {"(.)(.)", "\xe2\x82", "0-2 0-1 1-2"}, {"(.)(.)", "€\xe2", "0-4 0-3 3-4"},
		{"..", "\xc0\x80", "0-2"}, {"...", "\xed\xa0\x80", "0-3"}, {".", "\xed\xa0\x80", "none"}, {"....", "\xf4\x90\x80\x80", "0-4"},
		{"[^a]", "\xff", "0-1"}, {"\\W\\D\\S", "é\xff€", "0-6"}, {"\\w|\\d|\\s|[a-\x7f]", "é", "none"},
	})
}

func TestWhatAnAtomMatches(t *testing.T) {
	for _, c := range []struct{ pattern, has string }{
		{"a", "a"}, {"\\.", "."}, {"\\-", "-"}, {"\\\"", "\""}, {"-", "-"}, {"\x7f", "\x7f"}, {"\x00", "\x00"},
		{"\\d", "0123456789"}, {"\\s", " \t\n\r"}, {"[a-c]", "abc"}, {"[c-c]", "c"}, {"[ac-e]", "acde"}, {"[\\d\\]x]", "0123456789]x"},
		{"[\\--/]", "-./"}, {"[+-\\.]", "+,-."}, {"[\\[-\\]]", "[\\]"}, {"[.|$]", ".|$"}, {"[{-}]", "{|}"},
		{"(?i)[a-c]", "abcABC"}, {"(?i)k", "kK"}, {"(?i)[Z-a]", "Zz[\\]^_`aA"}, {"(?i)1", "1"}, {"(?i)@", "@"}, {"(?i)\\{", "{"},
		{"\\w", "0123456789ABCDEFGHIJKLMNOPQRSTUVWXYZ_abcdefghijklmnopqrstuvwxyz"},
	} {
		inner := strings.TrimPrefix(c.pattern, "(?i)")
		fold := c.pattern[:len(c.pattern)-len(inner)]
		outside := fold + "[^" + strings.TrimSuffix(strings.TrimPrefix(inner, "["), "]") + "]"
		if inner == "-" {
			outside = "[^\\-]"
		}
		for r := rune(0); r < 300; r++ {
			want, other := "none", fmt.Sprintf("0-%d", len(string(r)))
			if strings.ContainsRune(c.has, r) {
				want, other = other, want
			}
			if got := told(t, c.pattern, string(r)); got != want {
				t.Errorf("%q on %q: %s", c.pattern, r, got)
			}
			if got := told(t, outside, string(r)); got != other {
				t.Errorf("%q on %q: %s", outside, r, got)
			}
		}
	}
}

func TestFoldsOnlyTheLettersOfASCII(t *testing.T) {
	checkMatches(t, []matchCase{
		{"(?i)aB1", "Ab1", "0-3"}, {"aB", "ab", "none"}, {"(?i)k", "\u212a", "none"}, {"(?i)[^k]", "\u212a", "0-3"}, {"(?i)s", "ſ", "none"},
		{"(?i)[^a]", "A", "none"}, {"(?i)\\W", "a", "none"}, {"(?i)[^\\W]", "Q", "0-1"}, {"(?i)", "", "0-0"}, {"(?i)(a|B)*", "Ab", "0-2 1-2"},
	})
}

func TestPlaces(t *testing.T) {
	for text, want := range map[string]int{
		"a**": 2, "(a": 2, "a)": 1, "a{2,1}": 4, "[b-a]": 3, "[]": 1, "(?P<x>a)(?P<x>b)": 13, "\\q": 1, "(?i": 3,
		"*": 0, "(+)": 1, "a|?": 2, "{1}": 0, "]": 0, "}": 0, "^a": 0, "a$": 1, "(?i)*": 4, "a(?i)": 3, "(?i)(?i)": 6, "(?": 2, "(?=a)": 2, "(?i:a)": 3,
		"a???": 3, "a{1}??": 5, "a{2}{3}": 4, "a{": 2, "a{}": 2, "a{,1}": 2, "a{1": 3, "a{10}": 3, "a{1,": 4, "a{1,10}": 5, "a{9,8}": 4, "a{a}": 2,
		"(?P": 3, "(?Px": 3, "(?P<": 4, "(?P<>a)": 4, "(?P<X>a)": 4, "(?P<x1>a)": 5, "(?P<abcdefghi>a)": 12, "(?P<x": 5, "(?P<x>": 6, "(?P<x>(?P<x>": 11,
		"(?P<abcdefgh>)(?P<abcdefgh>)": 25, "(?P<abcdefg>)(?P<abcdefgh>)(?P<abcdefg>)": 38,
		"\\": 1, "\\a": 1, "\\é": 1, "\\n": 1, "[": 1, "[^": 2, "[^]": 2, "[a": 2, "[a^]": 2, "[[]": 1, "[-a]": 1, "[a-": 3, "[a-]": 3, "[a-b-c]": 4, "[\\d-a]": 3, "[a-\\d]": 4, "[\\q]": 2,
		"[a-\\.]": 4, "[}-\\|]": 4, "[~-\\}]": 3, "[\\}-\\{]": 5, "[\x7f-~]": 3, "é": 0, "a\x80": 1, "[é]": 1, "[a-é]": 3,
		"((((((": 6, "(((((((": 6, "()()()()()()": 11, "()()()()()(a)": 11, "()()()()()(?P<x>)": 12, "(?:(?:(?:(?:(?:(?:(a": 18, "(((((()": 6,
		strings.Repeat("a", 61): 60, strings.Repeat("*", 61): 60, strings.Repeat("a", 59) + ")": 59,
	} {
		if _, place, ok := regex.Read(text); ok || place != want {
			t.Errorf("Read(%q) = %d, %v, want %d", text, place, ok, want)
		}
	}
}

func TestEdgesThatAreStillPatterns(t *testing.T) {
	for _, text := range []string{
		strings.Repeat("a", 60), strings.Repeat("a", 59) + "*", "(?:(((((a))))))", "()()()()()(?:)", "((((()))))", "(?P<abcdefgh>)(?P<abcdefgi>)(?P<abcdefg>)(?P<x>)(?P<xy>)",
		"a{0}", "a{9}", "a{9,}", "a{9,9}?", "a{0,0}", "[}-\\}]", "[\x7f-\x7f]", "[\x00-\x7f]", "[\\}-~]", "[:P<>i!]", "|", "(|)", "()*", "<>,:P=!-\"",
		`\\\.\+\*\?\(\)\|\[\]\{\}\^\$\-\"`, `\d\w\s\D\W\S`, `[\\\.\+\*\?\(\)\|\[\]\{\}\^\$\-\"\d\w\s\D\W\S]`, "[.+*?()|{}$]",
	} {
		if _, place, ok := regex.Read(text); !ok || place != 0 {
			t.Errorf("Read(%q) = %d, %v", text, place, ok)
		}
	}
}

func TestWeight(t *testing.T) {
	const base, baseWeight = "(?:a{9}){9}", 100
	for text, weight := range map[string]int{
		"": 0, "a": 1, ".": 1, "\\d": 1, "\\.": 1, "[ab-d\\w]": 1, "()": 1, "(?:)": 1, "(?P<x>)": 1, "(ab)": 3, "|": 1, "a|b|c": 5, "(|)": 2,
		"a*": 2, "a+": 3, "a?": 2, "a*?": 2, "a{0}": 1, "a{3}": 4, "a{3,}": 5, "a{0,}": 2, "a{1,4}": 5, "a{4,4}?": 5, "(ab|){3}": 13, "(?:a{2}){3}": 13, "(a+)+": 9,
	} {
		light := base + strings.Repeat("b", api.MaxWeight-baseWeight-weight) + text
		if _, place, ok := regex.Read(light); !ok || place != 0 {
			t.Errorf("Read(%q) = %d, %v: too heavy", light, place, ok)
		}
		for _, heavy := range []string{"b" + light, "(?i)b" + light} {
			if _, place, ok := regex.Read(heavy); ok || place != len(heavy) {
				t.Errorf("Read(%q) = %d, %v: too light", heavy, place, ok)
			}
		}
		if _, _, ok := regex.Read("(?i)" + light); !ok {
			t.Errorf("%q: the mark of the fold is heavy", light)
		}
	}
	if _, place, _ := regex.Read("(?:(?:a{9}){9}){9}b**"); place != 20 {
		t.Errorf("the form goes ahead of the weight: %d", place)
	}
	if _, place, ok := regex.Read("(?:(((((a{9}){9}){9}){9}){9}){9}){9}"); ok || place != 36 {
		t.Errorf("far too heavy: %d, %v", place, ok)
	}
}

func TestGroupsByNumberAndName(t *testing.T) {
	p, _, ok := regex.Read("(?P<x>a)((?P<yy>b)|c)")
	if !ok {
		t.Fatal("no pattern")
	}
	found, ok := p.Match("ac")
	if !ok {
		t.Fatal("no match")
	}
	for n, want := range map[int]string{-1: "", 0: "ac", 1: "a", 2: "c", 3: "", 4: "", 999: ""} {
		if got := found.Numbered(n); got != want {
			t.Errorf("group %d is %q, want %q", n, got, want)
		}
	}
	for name, want := range map[string]string{"x": "a", "yy": "", "y": "", "": "", "1": ""} {
		if got := found.Named(name); got != want {
			t.Errorf("group %q is %q, want %q", name, got, want)
		}
	}
}

func FuzzEndsWithoutPanic(f *testing.F) {
	f.Add("(?i)(a|[^b-d]{2,}?)*", "abé\xff")
	f.Add("(?P<x>a**", "")
	f.Fuzz(func(t *testing.T, text, s string) {
		p, place, ok := regex.Read(text)
		if ok != (p != nil) || place < 0 || place > len(text) {
			t.Fatalf("Read(%q) = %v, %d, %v", text, p, place, ok)
		}
		if !ok {
			return
		}
		found, ok := p.Match(s)
		for _, span := range found.Spans() {
			if !ok || span.From > span.To || span.To > len(s) || (span.From < 0) != (span.To < 0) {
				t.Fatalf("%q on %q: %v, %v", text, s, found.Spans(), ok)
			}
		}
	})
}
