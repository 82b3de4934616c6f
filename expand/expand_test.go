package expand_test

import (
	"strings"
	"testing"

	"retag/expand"
	"retag/regex"
)

func found(t *testing.T, pattern, s string) regex.Found {
	t.Helper()
	p, _, ok := regex.Read(pattern)
	if !ok {
		t.Fatalf("%q is no pattern", pattern)
	}
	f, ok := p.Match(s)
	if !ok {
		t.Fatalf("%q does not match %q", pattern, s)
	}
	return f
}

func TestTemplate(t *testing.T) {
	f := found(t, "(?P<x>a)(?P<ab>b)(?:(?P<none>c)|d)()", "abd")
	for template, want := range map[string]string{
		"": "", "plain": "plain", "é\xff\x00": "é\xff\x00", "}{": "}{",
		"$0": "abd", "$1": "a", "${1}": "a", "$2$1": "ba", "$1x": "", "${1}x": "ax", "$1-x": "a-x", "$1é": "aé",
		"$3": "", "$4": "", "$5": "", "$9": "", "$999": "", "$00": "abd", "$002": "b", "$0002": "", "$0000": "", "${0001}": "", "$18446744073709551617": "",
		"$x": "a", "${x}": "a", "$ab": "b", "${x}b": "ab", "$x$ab": "ab", "$X": "", "$xa": "", "$x_": "", "$x1": "", "$none": "", "$_": "", "$1a": "",
		"$$": "$", "$$$": "$$", "$$$$": "$$", "$$1": "$1", "$$$1": "$a", "$": "$", "a$": "a$", "$ 1": "$ 1", "$-": "$-", "$é": "$é", "$.$x": "$.a",
		"${": "${", "${}": "${}", "${1": "${1", "${x-}": "${x-}", "${ x}": "${ x}", "${$1}": "${a}", "${${x}": "${a", "$}": "$}", "$1}": "a}", "$x{1}": "a{1}", "${x}}": "a}", "{$x}": "{a}", "${é}": "${é}",
	} {
		if got := expand.Template(template, f); got != want {
			t.Errorf("%q: %q, want %q", template, got, want)
		}
	}
}

func TestWhatAGroupStandsForIsNoTemplate(t *testing.T) {
	f := found(t, "(.*)", "$1${0}$$")
	if got := expand.Template("$1$$", f); got != "$1${0}$$$" {
		t.Errorf("%q", got)
	}
}

func TestLongTemplates(t *testing.T) {
	f := found(t, "(a)", "a")
	for _, c := range []struct{ piece, want string }{{"$1-", "a-"}, {"${1", "${1"}, {"$$", "$"}, {"${", "${"}} {
		if got := expand.Template(strings.Repeat(c.piece, 50000), f); got != strings.Repeat(c.want, 50000) {
			t.Errorf("%q, many times: %.20q", c.piece, got)
		}
	}
}
