package retag_test

import (
	"reflect"
	"strings"
	"testing"

	"retag/api"
	"retag/retag"
)

// labels takes texts of the form name=value.
func labels(texts ...string) []api.Label {
	var out []api.Label
	for _, text := range texts {
		name, value, _ := strings.Cut(text, "=")
		out = append(out, api.Label{Name: name, Value: value})
	}
	return out
}

// tell writes labels one behind the other, and - for a series that is dropped.
func tell(list []api.Label, kept bool) string {
	if !kept {
		return "-"
	}
	var texts []string
	for _, label := range list {
		texts = append(texts, label.Name+"="+label.Value)
	}
	return strings.Join(texts, " ")
}

func loaded(t *testing.T, rules ...api.Rule) *retag.Engine {
	t.Helper()
	e := retag.Open(5)
	wantLoad(t, e, rules, api.OK, 0, 0)
	return e
}

func wantLoad(t *testing.T, e *retag.Engine, rules []api.Rule, errno api.Errno, number, place int) {
	t.Helper()
	if gotErrno, gotNumber, gotPlace := e.Load(rules); gotErrno != errno || gotNumber != number || gotPlace != place {
		t.Errorf("Load(%+v) = %d, %d, %d, want %d, %d, %d", rules, gotErrno, gotNumber, gotPlace, errno, number, place)
	}
}

func wantRelabel(t *testing.T, e *retag.Engine, in []api.Label, want string) {
	t.Helper()
	list, kept, errno := e.Relabel(in)
	if got := tell(list, kept); got != want || errno != api.OK {
		t.Errorf("Relabel(%v) = %s, %d, want %s", in, got, errno, want)
	}
	if !kept && len(list) != 0 {
		t.Errorf("Relabel(%v): dropped, and yet %v", in, list)
	}
}

// mark is a rule that sets the label m.
func mark(value string) api.Rule {
	return api.Rule{Target: "m", Replacement: value}
}

func repeated(r api.Rule, times int) []api.Rule {
	var out []api.Rule
	for range times {
		out = append(out, r)
	}
	return out
}

func TestLoadTellsTheFirstWrongRule(t *testing.T) {
	right := mark("x")
	for _, c := range []struct {
		wrong api.Rule
		errno api.Errno
		place int
	}{
		{api.Rule{Action: 11}, api.ErrAction, 0},
		{api.Rule{Action: api.Keep, Separator: strings.Repeat("s", 61)}, api.ErrBig, 0},
		{api.Rule{Action: api.Keep, Sources: []string{"1"}, Regex: "("}, api.ErrSource, 0},
		{api.Rule{Action: api.Keep, Regex: "ab**", Modulus: 1}, api.ErrRegex, 3},
		{api.Rule{Action: api.Keep, Regex: strings.Repeat("a", 61)}, api.ErrRegex, 60},
		{api.Rule{Action: api.Uppercase, Modulus: 1}, api.ErrTarget, 0},
		{api.Rule{Action: api.Keep, Target: "a"}, api.ErrField, 0},
		{api.Rule{Action: api.HashMod, Target: "a"}, api.ErrModulus, 0},
	} {
		for number := range api.MaxRules {
			rules := append(repeated(right, number), c.wrong)
			for len(rules) < api.MaxRules {
				rules = append(rules, api.Rule{Action: -1})
			}
			wantLoad(t, retag.Open(1), rules, c.errno, number, c.place)
		}
	}
}

func TestLoadOfManyRules(t *testing.T) {
	e := loaded(t, mark("x"))
	for _, rules := range [][]api.Rule{
		repeated(mark("y"), api.MaxRules+1), make([]api.Rule, api.MaxRules+1), repeated(api.Rule{Action: api.Keep, Regex: "a**"}, 1000),
	} {
		wantLoad(t, e, rules, api.ErrMany, 0, 0)
		wantRelabel(t, e, nil, "m=x")
	}
	appendOne := api.Rule{Sources: []string{"m"}, Regex: "(.*)", Target: "m", Replacement: "${1}x"}
	wantLoad(t, e, repeated(appendOne, api.MaxRules), api.OK, 0, 0)
	wantRelabel(t, e, nil, "m="+strings.Repeat("x", api.MaxRules))
}

func TestRefusedLoadLeavesTheRules(t *testing.T) {
	e := retag.Open(3)
	wantRelabel(t, e, labels("a=1"), "a=1")
	wantLoad(t, e, []api.Rule{mark("x"), {Action: 99}}, api.ErrAction, 1, 0)
	wantRelabel(t, e, labels("a=1"), "a=1")
	wantLoad(t, e, []api.Rule{mark("x")}, api.OK, 0, 0)
	wantRelabel(t, e, labels("a=1"), "a=1 m=x")
	wantLoad(t, e, []api.Rule{{Action: api.Drop, Regex: ".*"}, {Action: api.Keep, Regex: "("}}, api.ErrRegex, 1, 1)
	wantRelabel(t, e, labels("a=1"), "a=1 m=x")
	wantLoad(t, e, []api.Rule{mark("y")}, api.OK, 0, 0)
	wantRelabel(t, e, labels("a=1"), "a=1 m=y")
	wantLoad(t, e, nil, api.OK, 0, 0)
	wantRelabel(t, e, labels("a=1"), "a=1")
}

func TestLoadKeepsAndWritesNothing(t *testing.T) {
	sources := []string{"a", "b", "spare"}
	rules := []api.Rule{{Action: api.Lowercase, Sources: sources[:2], Separator: ";", Target: "t"}, mark("x"), {Action: api.Drop, Regex: ".*"}}
	before := []api.Rule{{Action: api.Lowercase, Sources: []string{"a", "b"}, Separator: ";", Target: "t"}, mark("x"), {Action: api.Drop, Regex: ".*"}}
	e := loaded(t, rules[:2]...)
	if !reflect.DeepEqual(rules, before) || sources[2] != "spare" {
		t.Errorf("Load wrote: %+v, %v", rules, sources)
	}
	sources[0], sources[1] = "b", "a"
	rules[0], rules[1] = rules[2], rules[2]
	wantRelabel(t, e, labels("a=X", "b=Y"), "a=X b=Y m=x t=x;y")
}

func TestEnginesAreNothingToOneAnother(t *testing.T) {
	rules := []api.Rule{mark("x")}
	first, second := loaded(t, rules...), loaded(t, rules...)
	third := retag.Open(1)
	wantLoad(t, first, []api.Rule{{Action: api.Drop, Regex: ".*"}}, api.OK, 0, 0)
	wantRelabel(t, first, labels("a=1"), "-")
	wantRelabel(t, second, labels("a=1"), "a=1 m=x")
	wantRelabel(t, third, labels("a=1"), "a=1")
}
