package retag_test

import (
	"fmt"
	"math/rand"
	"sort"
	"strings"
	"testing"

	"retag/api"
	"retag/retag"
)

// A telling is what the document says of rules, told a second time, by a map
// and as plainly as can be, with Match, Expand and Hash taken as they are.
type telling map[string]string

func isName(text string) bool {
	_, ok, _, _ := retag.Match("[a-zA-Z_]\\w*", text)
	return ok && len(text) <= api.MaxName
}

func (l telling) set(name, value string) {
	_, there := l[name]
	switch {
	case value == "":
		delete(l, name)
	case there || len(l) < api.MaxSeries:
		l[name] = value[:min(len(value), api.MaxValue)]
	}
}

func (l telling) sorted() []api.Label {
	var out []api.Label
	for name, value := range l {
		out = append(out, api.Label{Name: name, Value: value})
	}
	sort.Slice(out, func(i, j int) bool { return out[i].Name < out[j].Name })
	return out
}

func (l telling) apply(r api.Rule) (kept bool) {
	text := ""
	for i, source := range r.Sources {
		if i > 0 {
			text += r.Separator
		}
		text += l[source]
	}
	_, matches, _, _ := retag.Match(r.Regex, text)
	build := func(s, template string) string {
		out, _ := retag.Expand(r.Regex, s, template)
		return out
	}
	switch r.Action {
	case api.Replace:
		if name := build(text, r.Target); matches && isName(name) {
			l.set(name, build(text, r.Replacement))
		}
	case api.Keep:
		return matches
	case api.Drop:
		return !matches
	case api.KeepEqual:
		return text == l[r.Target]
	case api.DropEqual:
		return text != l[r.Target]
	case api.HashMod:
		l.set(r.Target, fmt.Sprint(retag.Hash(text)%r.Modulus))
	case api.Lowercase, api.Uppercase:
		l.set(r.Target, otherCase(text, r.Action == api.Lowercase))
	default:
		l.applyByName(r, build)
	}
	return true
}

func (l telling) applyByName(r api.Rule, build func(s, template string) string) {
	for _, label := range l.sorted() {
		_, matches, _, _ := retag.Match(r.Regex, label.Name)
		switch {
		case r.Action == api.LabelMap && matches && isName(build(label.Name, r.Replacement)):
			l.set(build(label.Name, r.Replacement), label.Value)
		case r.Action == api.LabelDrop && matches, r.Action == api.LabelKeep && !matches:
			delete(l, label.Name)
		}
	}
}

func otherCase(text string, lower bool) string {
	const small, great = "abcdefghijklmnopqrstuvwxyz", "ABCDEFGHIJKLMNOPQRSTUVWXYZ"
	from, to := small, great
	if lower {
		from, to = great, small
	}
	out := ""
	for i := range len(text) {
		if at := strings.IndexByte(from, text[i]); at >= 0 {
			out += to[at : at+1]
		} else {
			out += text[i : i+1]
		}
	}
	return out
}

func told(rules []api.Rule, in []api.Label) string {
	l := telling{}
	for _, label := range in {
		l[label.Name] = label.Value
	}
	for name, value := range l {
		if value == "" {
			delete(l, name)
		}
	}
	for _, r := range rules {
		if !l.apply(r) {
			return "-"
		}
	}
	return tell(l.sorted(), true)
}

func oneOf(random *rand.Rand, texts ...string) string {
	return texts[random.Intn(len(texts))]
}

func someName(random *rand.Rand) string {
	return oneOf(random, "a", "b", "c", "A", "ab", "_", "x1", "xa")
}

func someRule(random *rand.Rand) api.Rule {
	r := api.Rule{Action: random.Intn(api.Uppercase + 1)}
	byNames := r.Action == api.LabelMap || r.Action == api.LabelDrop || r.Action == api.LabelKeep
	if !byNames {
		for range random.Intn(3) {
			r.Sources = append(r.Sources, someName(random))
		}
		r.Separator = oneOf(random, "", ";", "-", "ab")
	}
	switch r.Action {
	case api.Replace, api.Keep, api.Drop, api.LabelDrop, api.LabelKeep, api.LabelMap:
		r.Regex = oneOf(random, "", ".*", "(.*)", "(.)(.*)", "(?P<k>a*)(.*)", "a.*|b", "[^a]*", "(.*);(.*)", "(?i)a.*", "(x)?(.*?)")
	}
	switch r.Action {
	case api.Replace:
		r.Target = oneOf(random, "a", "b", "$1", "c$1", "$2", "${k}x", "x$2$1", "-")
	case api.KeepEqual, api.DropEqual, api.HashMod, api.Lowercase, api.Uppercase:
		r.Target = someName(random)
	}
	switch r.Action {
	case api.Replace, api.LabelMap:
		r.Replacement = oneOf(random, "", "x", "$1", "$2$1", "x$1", "y$0", "_$0", "$0$0$0$0$0$0$0$0$0$0$0$0", "${k}")
	case api.HashMod:
		r.Modulus = uint64(random.Intn(9) + 1)
	}
	return r
}

// someChain holds few rules that drop a series, else hardly one would come
// through; one chain in eight begins with rules that add labels alone.
func someChain(random *rand.Rand) []api.Rule {
	var rules []api.Rule
	if random.Intn(8) == 0 {
		for _, letter := range "pqr" {
			rules = append(rules, api.Rule{Action: api.LabelMap, Regex: "(.*)", Replacement: string(letter) + "$1"})
		}
	}
	for range random.Intn(api.MaxRules - 2) {
		r := someRule(random)
		if r.Action < api.Keep || r.Action > api.DropEqual || random.Intn(3) == 0 {
			rules = append(rules, r)
		}
	}
	return rules
}

func someLabels(random *rand.Rand) []api.Label {
	var out []api.Label
	for i := range random.Intn(api.MaxLabels + 1) {
		out = append(out, api.Label{
			Name:  oneOf(random, someName(random), strings.Repeat("n", i+1)),
			Value: oneOf(random, "", "a", "b", "ab", "a;b", "é\xff", "xAbC", "1", strings.Repeat("v", random.Intn(api.MaxValue+1))),
		})
	}
	return out
}

func TestAgainstASecondTelling(t *testing.T) {
	random := rand.New(rand.NewSource(1))
	drops, full := 0, 0
	for range 10000 {
		rules, in := someChain(random), someLabels(random)
		want := told(rules, in)
		wantRelabel(t, loaded(t, rules...), in, want)
		if want == "-" {
			drops++
		}
		if strings.Count(want, "=") == api.MaxSeries {
			full++
		}
	}
	if drops < 1000 || full < 100 {
		t.Errorf("too few were dropped, %d, or full, %d", drops, full)
	}
}
