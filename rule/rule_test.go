package rule_test

import (
	"strings"
	"testing"

	"retag/api"
	"retag/rule"
	"retag/series"
)

const actions = api.Uppercase + 1

func usesText(action int) bool {
	return action != api.LabelMap && action != api.LabelDrop && action != api.LabelKeep
}

func usesRegex(action int) bool {
	return action <= api.Drop || action >= api.LabelMap && action <= api.LabelKeep
}

func usesTarget(action int) bool {
	return action == api.Replace || action >= api.KeepEqual && action <= api.HashMod || action >= api.Lowercase
}

func usesReplacement(action int) bool {
	return action == api.Replace || action == api.LabelMap
}

// full is a right rule of an action with all that it uses.
func full(action int) api.Rule {
	r := api.Rule{Action: action}
	if usesText(action) {
		r.Sources, r.Separator = []string{"a", "b"}, ";"
	}
	if usesRegex(action) {
		r.Regex = "(.*)"
	}
	if usesTarget(action) {
		r.Target = "t"
	}
	if usesReplacement(action) {
		r.Replacement = "$1"
	}
	if action == api.HashMod {
		r.Modulus = 7
	}
	return r
}

// least is a right rule of an action with as little as it may have.
func least(action int) api.Rule {
	r := api.Rule{Action: action}
	if usesTarget(action) {
		r.Target = "t"
	}
	if action == api.HashMod {
		r.Modulus = 1
	}
	return r
}

func check(t *testing.T, given api.Rule, want api.Errno, wantPlace int) {
	t.Helper()
	made, errno, place := rule.Make(given)
	if errno != want || place != wantPlace {
		t.Errorf("Make(%+v) = %d, %d, want %d, %d", given, errno, place, want, wantPlace)
		return
	}
	if errno == api.OK {
		empty, _ := series.Read(nil)
		labels := empty.Labels()
		made.Apply(labels)
	}
}

func TestRightRules(t *testing.T) {
	for action := range actions {
		check(t, full(action), api.OK, 0)
		check(t, least(action), api.OK, 0)
		empty := least(action)
		empty.Sources = []string{}
		check(t, empty, api.OK, 0)
	}
}

func TestActionsThatAreNone(t *testing.T) {
	for _, action := range []int{-1, actions, actions + 1, -1 << 63, 1<<63 - 1, 256, 1 << 32} {
		check(t, api.Rule{Action: action, Target: "t"}, api.ErrAction, 0)
		check(t, api.Rule{Action: action, Separator: strings.Repeat("s", api.MaxText+1), Sources: []string{""}, Regex: "(", Modulus: 1}, api.ErrAction, 0)
	}
}

// TestUnused lays into each action, one at a time, all that it has no use for.
func TestUnused(t *testing.T) {
	for action := range actions {
		for _, c := range []struct {
			used bool
			lay  func(r *api.Rule)
		}{
			{usesText(action), func(r *api.Rule) { r.Sources = []string{"a"} }},
			{usesText(action), func(r *api.Rule) { r.Separator = ";" }},
			{usesRegex(action), func(r *api.Rule) { r.Regex = "a" }},
			{usesTarget(action), func(r *api.Rule) { r.Target = "t" }},
			{usesReplacement(action), func(r *api.Rule) { r.Replacement = "x" }},
			{action == api.HashMod, func(r *api.Rule) { r.Modulus = 1 }},
		} {
			for _, given := range []api.Rule{full(action), least(action)} {
				c.lay(&given)
				want := api.ErrField
				if c.used {
					want = api.OK
				}
				check(t, given, want, 0)
			}
		}
		if usesRegex(action) {
			continue
		}
		for _, text := range []string{"(", "a**", strings.Repeat("a", api.MaxPattern+1)} {
			given := full(action)
			given.Regex = text
			check(t, given, api.ErrField, 0)
		}
	}
}

// A fault is laid into a rule of an action; can tells whether it may be.
type fault struct {
	errno api.Errno
	place int
	can   func(action int) bool
	lay   func(r *api.Rule)
}

// faults stand in the order in which they are told.
func faults() []fault {
	all := func(int) bool { return true }
	return []fault{
		{api.ErrBig, 0, all, func(r *api.Rule) { r.Separator = strings.Repeat("s", api.MaxText+1) }},
		{api.ErrSource, 0, all, func(r *api.Rule) { r.Sources = []string{"a", "b-"} }},
		{api.ErrRegex, 2, usesRegex, func(r *api.Rule) { r.Regex = "a**" }},
		{api.ErrTarget, 0, usesTarget, func(r *api.Rule) { r.Target = "" }},
		{api.ErrField, 0, func(action int) bool { return action != api.HashMod }, func(r *api.Rule) { r.Modulus = 1 }},
		{api.ErrField, 0, func(action int) bool { return action == api.HashMod }, func(r *api.Rule) { r.Replacement = "x" }},
		{api.ErrModulus, 0, func(action int) bool { return action == api.HashMod }, func(r *api.Rule) { r.Modulus = 0 }},
	}
}

// TestOrderOfErrors lays each fault alone, and together with every choice of
// those behind it.
func TestOrderOfErrors(t *testing.T) {
	list := faults()
	for action := range actions {
		for choice := 1; choice < 1<<len(list); choice++ {
			given, want, place := full(action), api.OK, 0
			for i, f := range list {
				if choice>>i&1 == 0 || !f.can(action) {
					continue
				}
				f.lay(&given)
				if want == api.OK {
					want, place = f.errno, f.place
				}
			}
			check(t, given, want, place)
		}
	}
}

func TestBig(t *testing.T) {
	most := strings.Repeat("m", api.MaxText)
	for action := range actions {
		for _, lay := range []func(r *api.Rule, text string){
			func(r *api.Rule, text string) { r.Separator = text },
			func(r *api.Rule, text string) { r.Target = text },
			func(r *api.Rule, text string) { r.Replacement = text },
			func(r *api.Rule, text string) { r.Sources = []string{"-", "a", text} },
		} {
			given := full(action)
			lay(&given, most+"m")
			check(t, given, api.ErrBig, 0)
			lay(&given, most)
			if _, errno, _ := rule.Make(given); errno == api.ErrBig {
				t.Errorf("Make(%+v) = %d", given, errno)
			}
		}
		given := full(action)
		given.Sources = []string{"a", "", "a", "a", "a", "a"}
		check(t, given, api.ErrBig, 0)
	}
	check(t, api.Rule{
		Action: api.Replace, Sources: []string{most, most, most, most, most}, Separator: most,
		Regex: strings.Repeat("a", api.MaxPattern), Target: most, Replacement: most,
	}, api.OK, 0)
}

func TestSources(t *testing.T) {
	for action := range actions {
		for _, sources := range [][]string{{""}, {"1"}, {"a", "b", "c", "d", "é"}, {"$1", "a"}, {"a b"}} {
			given := full(action)
			given.Sources = sources
			check(t, given, api.ErrSource, 0)
		}
	}
}

func TestRegex(t *testing.T) {
	for action := range actions {
		if !usesRegex(action) {
			continue
		}
		for text, place := range map[string]int{"a**": 2, "(": 1, "é": 0, "((a{9}){9}){2}": 14, "*": 0, strings.Repeat("a", api.MaxPattern+1): api.MaxPattern} {
			given := full(action)
			given.Regex = text
			check(t, given, api.ErrRegex, place)
		}
	}
}

func TestTarget(t *testing.T) {
	for action := range actions {
		if !usesTarget(action) {
			continue
		}
		given := full(action)
		given.Target = ""
		check(t, given, api.ErrTarget, 0)
		for _, target := range []string{"1", "$1", "a-", "é", "a ", "${1}", "\xff"} {
			given.Target = target
			want := api.ErrTarget
			if action == api.Replace {
				want = api.OK
			}
			check(t, given, want, 0)
		}
	}
}

func TestModulus(t *testing.T) {
	given := full(api.HashMod)
	for _, modulus := range []uint64{1, 2, 1 << 63, 1<<64 - 1} {
		given.Modulus = modulus
		check(t, given, api.OK, 0)
	}
	given.Modulus = 0
	check(t, given, api.ErrModulus, 0)
	check(t, api.Rule{Action: api.HashMod, Target: "t"}, api.ErrModulus, 0)
}

func TestNothingHandedInIsKeptOrWritten(t *testing.T) {
	room := []string{"a", "b", "spare"}
	made, errno, _ := rule.Make(api.Rule{Action: api.Lowercase, Sources: room[:2], Separator: ";", Target: "t"})
	if errno != api.OK || room[0] != "a" || room[1] != "b" || room[2] != "spare" {
		t.Fatalf("%d, %v", errno, room)
	}
	room[0], room[1] = "b", "a"
	read, _ := series.Read([]api.Label{{Name: "a", Value: "X"}, {Name: "b", Value: "Y"}})
	labels := read.Labels()
	if !made.Apply(labels) || labels.Value("t") != "x;y" {
		t.Errorf("%v", labels.List())
	}
}
