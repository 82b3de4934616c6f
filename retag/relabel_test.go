package retag_test

import (
	"reflect"
	"strconv"
	"strings"
	"testing"

	"retag/api"
	"retag/retag"
)

// A row is a chain of rules, and what becomes of labels.
type row struct {
	rules []api.Rule
	in    []api.Label
	want  string
}

func wantRows(t *testing.T, rows []row) {
	t.Helper()
	for _, c := range rows {
		e := loaded(t, c.rules...)
		for range 2 {
			wantRelabel(t, e, c.in, c.want)
		}
	}
}

func chain(rules ...api.Rule) []api.Rule { return rules }

func replace(regex, target, replacement string, sources ...string) api.Rule {
	return api.Rule{Action: api.Replace, Sources: sources, Separator: "-", Regex: regex, Target: target, Replacement: replacement}
}

func filter(action int, regex string, sources ...string) api.Rule {
	return api.Rule{Action: action, Sources: sources, Separator: ";", Regex: regex}
}

func aim(action int, target string, sources ...string) api.Rule {
	return api.Rule{Action: action, Sources: sources, Separator: ";", Target: target}
}

func hashMod(modulus uint64, sources ...string) api.Rule {
	r := aim(api.HashMod, "m", sources...)
	r.Modulus = modulus
	return r
}

func byName(action int, regex, replacement string) api.Rule {
	return api.Rule{Action: action, Regex: regex, Replacement: replacement}
}

func TestReplace(t *testing.T) {
	long := strings.Repeat("v", api.MaxValue)
	name := strings.Repeat("n", api.MaxName)
	ab := labels("a=1", "b=2")
	wantRows(t, []row{
		{chain(replace("(.)-(.)", "c$1", "$2$1", "a", "b")), ab, "a=1 b=2 c1=21"},
		{chain(replace("(.)-(.)", "$1", "$2$1", "a", "b")), ab, "a=1 b=2"},
		{chain(replace("(.)-(.)", "a", "", "a", "b")), ab, "b=2"},
		{chain(replace("(.)-(.)", "c", "", "a", "b")), ab, "a=1 b=2"},
		{chain(replace("(.)-(.)", "a", "$3", "a", "b")), ab, "b=2"},
		{chain(replace(".", "a", "x", "a", "b")), ab, "a=1 b=2"},
		{chain(replace("(.)-(.)", "b", "x$1", "b", "a")), ab, "a=1 b=x2"},
		{chain(replace("1-1-1-1-1", "c", "x", "a", "a", "a", "a", "a")), ab, "a=1 b=2 c=x"},
		{chain(replace("-2-", "c", "[$0]", "z", "b", "y")), ab, "a=1 b=2 c=[-2-]"},
		{chain(replace("", "c", "x")), ab, "a=1 b=2 c=x"},
		{chain(replace("", "c", "x", "z")), ab, "a=1 b=2 c=x"},
		{chain(replace("", "c", "x", "a")), ab, "a=1 b=2"},
		{chain(replace(".*", "c-", "x", "a")), ab, "a=1 b=2"},
		{chain(replace(".*", "$$", "x", "a")), ab, "a=1 b=2"},
		{chain(replace(".*", "c", "$$", "a")), ab, "a=1 b=2 c=$"},
		{chain(replace("(?P<k>.*)", "c${k}d", "${k}", "a")), ab, "a=1 b=2 c1d=1"},
		{chain(replace("(.*)", "$1", "x", "a")), labels("a=" + name), "a=" + name + " " + name + "=x"},
		{chain(replace("(.*)", "${1}n", "x", "a")), labels("a=" + name), "a=" + name},
		{chain(replace("(.*)", "$2", "x", "a")), ab, "a=1 b=2"},
		{chain(replace("(.*)", "c", "x$1", "a")), labels("a=" + long), "a=" + long + " c=x" + long[1:]},
		{chain(replace("(.*)", "c", strings.Repeat("$1", api.MaxText/2), "a", "a", "a", "a", "a")), labels("a=" + long), "a=" + long + " c=" + long},
		{chain(replace("(.*)", "c", "${1}x", "a")), labels("a=" + long), "a=" + long + " c=" + long},
		{chain(replace("(.)(.)", "c", "$2$1", "a")), labels("a=é\xff"), "a=é\xff c=\xffé"},
		{chain(replace("(.*)", "c", "x$1", "a")), labels("a=" + strings.Repeat("é", 100)), "a=" + strings.Repeat("é", 100) + " c=x" + strings.Repeat("é", 99) + "\xc3"},
	})
}

func TestKeepAndDrop(t *testing.T) {
	ab := labels("a=1", "b=2")
	wantRows(t, []row{
		{chain(filter(api.Keep, "1;2", "a", "b")), ab, "a=1 b=2"}, {chain(filter(api.Keep, "1;", "a", "b")), ab, "-"},
		{chain(filter(api.Drop, "1;2", "a", "b")), ab, "-"}, {chain(filter(api.Drop, "1;", "a", "b")), ab, "a=1 b=2"},
		{chain(filter(api.Keep, "1;", "a", "z")), ab, "a=1 b=2"}, {chain(filter(api.Drop, ";2", "z", "b")), ab, "-"},
		{chain(filter(api.Keep, "")), ab, "a=1 b=2"}, {chain(filter(api.Drop, "")), ab, "-"},
		{chain(filter(api.Keep, ".")), ab, "-"}, {chain(filter(api.Drop, ".")), ab, "a=1 b=2"},
		{chain(filter(api.Keep, "")), nil, ""}, {chain(filter(api.Drop, "")), nil, "-"},
	})
}

func TestKeepEqualAndDropEqual(t *testing.T) {
	in := labels("a=1", "b=1", "c=2", "d=1;2")
	all := "a=1 b=1 c=2 d=1;2"
	wantRows(t, []row{
		{chain(aim(api.KeepEqual, "b", "a")), in, all}, {chain(aim(api.DropEqual, "b", "a")), in, "-"},
		{chain(aim(api.KeepEqual, "c", "a")), in, "-"}, {chain(aim(api.DropEqual, "c", "a")), in, all},
		{chain(aim(api.KeepEqual, "d", "a", "c")), in, all}, {chain(aim(api.DropEqual, "d", "a", "c")), in, "-"},
		{chain(aim(api.KeepEqual, "z")), in, all}, {chain(aim(api.DropEqual, "z")), in, "-"},
		{chain(aim(api.KeepEqual, "z", "y")), in, all}, {chain(aim(api.DropEqual, "z", "y")), in, "-"},
		{chain(aim(api.KeepEqual, "a")), in, "-"}, {chain(aim(api.DropEqual, "a")), in, all},
		{chain(aim(api.KeepEqual, "z", "a")), in, "-"}, {chain(aim(api.DropEqual, "z", "y", "x")), in, all},
	})
}

func TestHashMod(t *testing.T) {
	text := retag.Hash("1;2")
	wantRows(t, []row{
		{chain(hashMod(1<<64-1, "a", "b")), labels("a=1", "b=2"), "a=1 b=2 m=" + strconv.FormatUint(text, 10)},
		{chain(hashMod(1000, "a", "b")), labels("a=1", "b=2"), "a=1 b=2 m=" + strconv.FormatUint(text%1000, 10)},
		{chain(hashMod(10, "a")), labels("a=a", "m=9"), "a=a m=6"},
		{chain(hashMod(1, "a")), labels("a=a"), "a=a m=0"},
		{chain(hashMod(1<<63, "z")), nil, "m=" + strconv.FormatUint(14695981039346656037-1<<63, 10)},
		{chain(hashMod(1<<64 - 1)), nil, "m=14695981039346656037"},
	})
}

func TestLabelMap(t *testing.T) {
	name := strings.Repeat("n", api.MaxName)
	wantRows(t, []row{
		{chain(byName(api.LabelMap, "a(.*)", "$1")), labels("ab=1", "ac=2", "b=9"), "ab=1 ac=2 b=1 c=2"},
		{chain(byName(api.LabelMap, "(.)(.)", "$2$1")), labels("ab=1", "ba=2"), "ab=2 ba=1"},
		{chain(byName(api.LabelMap, "(a+)", "a$1")), labels("a=1", "aa=2", "aaa=3"), "a=1 aa=1 aaa=2 aaaa=3"},
		{chain(byName(api.LabelMap, ".*", "x")), labels("a=1", "x=2", "z=3"), "a=1 x=3 z=3"},
		{chain(byName(api.LabelMap, ".*", "m")), labels("a=1", "m=2"), "a=1 m=2"},
		{chain(byName(api.LabelMap, "(.*)", "")), labels("a=1"), "a=1"},
		{chain(byName(api.LabelMap, "", "x")), labels("a=1"), "a=1"},
		{chain(byName(api.LabelMap, "a(.*)", "$1")), labels("a=1", "a1=2"), "a=1 a1=2"},
		{chain(byName(api.LabelMap, "(.*)", "${1}x")), labels("n=1", name+"=2"), "n=1 " + name + "=2 nx=1"},
		{chain(byName(api.LabelMap, "(.*)", "x$1")), nil, ""},
	})
}

func TestLabelDropAndLabelKeep(t *testing.T) {
	in := labels("a=1", "ab=2", "b=3")
	wantRows(t, []row{
		{chain(byName(api.LabelDrop, "a.*", "")), in, "b=3"}, {chain(byName(api.LabelKeep, "a.*", "")), in, "a=1 ab=2"},
		{chain(byName(api.LabelDrop, "a", "")), in, "ab=2 b=3"}, {chain(byName(api.LabelKeep, "a", "")), in, "a=1"},
		{chain(byName(api.LabelDrop, "", "")), in, "a=1 ab=2 b=3"}, {chain(byName(api.LabelKeep, "", "")), in, ""},
		{chain(byName(api.LabelDrop, ".*", "")), in, ""}, {chain(byName(api.LabelKeep, ".*", "")), in, "a=1 ab=2 b=3"},
		{chain(byName(api.LabelDrop, "[123]", "")), in, "a=1 ab=2 b=3"}, {chain(byName(api.LabelKeep, "z", "")), nil, ""},
	})
}

func TestLowercaseAndUppercase(t *testing.T) {
	odd := "@AZ[`az{\xc1\xffÀé\x00"
	long := strings.Repeat("a", api.MaxValue)
	wantRows(t, []row{
		{chain(aim(api.Lowercase, "b", "a")), labels("a=" + odd), "a=" + odd + " b=@az[`az{\xc1\xffÀé\x00"},
		{chain(aim(api.Uppercase, "b", "a")), labels("a=" + odd), "a=" + odd + " b=@AZ[`AZ{\xc1\xffÀé\x00"},
		{chain(aim(api.Uppercase, "a", "a", "b")), labels("a=x", "b=y"), "a=X;Y b=y"},
		{chain(aim(api.Lowercase, "a", "z")), labels("a=X"), ""}, {chain(aim(api.Uppercase, "a")), labels("a=x", "b=y"), "b=y"},
		{chain(aim(api.Uppercase, "c", "a", "a")), labels("a=" + long), "a=" + long + " c=" + strings.ToUpper(long)},
	})
}

func TestChains(t *testing.T) {
	wantRows(t, []row{
		{nil, labels("b=2", "a=1", "b=3", "c="), "a=1 b=3"}, {nil, nil, ""}, {nil, labels("a=1", "a="), ""},
		{nil, labels("B=1", "a=1", "_=1", "A=2"), "A=2 B=1 _=1 a=1"},
		{chain(replace("(.).*", "b", "$1", "a"), byName(api.LabelDrop, "a", ""), filter(api.Keep, "x", "b")), labels("a=xyz"), "b=x"},
		{chain(filter(api.Drop, "1", "a"), replace("", "c", "x")), labels("a=1"), "-"},
		{chain(filter(api.Drop, "1", "a"), filter(api.Keep, ".*")), labels("a=1"), "-"},
		{chain(replace(".*", "a", "2", "a"), filter(api.Drop, "1", "a")), labels("a=1"), "a=2"},
		{chain(byName(api.LabelMap, "(.*)", "x$1"), byName(api.LabelKeep, "x.", ""), aim(api.Uppercase, "xa", "xb")), labels("a=p", "b=q"), "xa=Q xb=q"},
		{chain(replace(".*", "a", "", "a"), aim(api.KeepEqual, "z", "a")), labels("a=1", "b=2"), "b=2"},
	})
}

// TestFullSeries comes to MaxSeries labels with 20 of them, mapped twice: the
// second map sets the 20 that are sorted first, and then nothing.
func TestFullSeries(t *testing.T) {
	var in []api.Label
	want := map[string]string{}
	for i := range api.MaxLabels {
		name := "n" + strconv.Itoa(10+i)
		in = append(in, api.Label{Name: name, Value: name})
		want[name], want["a"+name], want["ba"+name] = name, name, name
	}
	grow := chain(byName(api.LabelMap, "(.*)", "a$1"), byName(api.LabelMap, "(.*)", "b$1"))
	for _, c := range []struct {
		then   api.Rule
		change func(want map[string]string)
	}{
		{filter(api.Keep, ""), func(map[string]string) {}},
		{replace("(.*)", "z", "x", "n10"), func(map[string]string) {}},
		{replace("(.*)", "z", "", "n10"), func(map[string]string) {}},
		{replace("(.*)", "n11", "$1", "n10"), func(want map[string]string) { want["n11"] = "n10" }},
		{replace("(.*)", "n11", "", "n10"), func(want map[string]string) { delete(want, "n11") }},
		{aim(api.Uppercase, "c", "n10"), func(map[string]string) {}},
		{aim(api.Uppercase, "an12", "n10"), func(want map[string]string) { want["an12"] = "N10" }},
		{hashMod(5, "a"), func(map[string]string) {}},
		{byName(api.LabelMap, "n(.*)", "c$1"), func(map[string]string) {}},
		{byName(api.LabelMap, "(n1.)", "ba$1"), func(map[string]string) {}},
	} {
		wanted := map[string]string{}
		for name, value := range want {
			wanted[name] = value
		}
		c.change(wanted)
		list, kept, errno := loaded(t, append(grow[:2:2], c.then)...).Relabel(in)
		got := map[string]string{}
		for _, label := range list {
			got[label.Name] = label.Value
		}
		if !reflect.DeepEqual(got, wanted) || len(list) != len(wanted) || !kept || errno != api.OK {
			t.Errorf("%+v: %v, %v, %d, want %v", c.then, list, kept, errno, wanted)
		}
	}
}

func TestRelabelRefuses(t *testing.T) {
	long := strings.Repeat("v", api.MaxValue+1)
	same := make([]api.Label, api.MaxLabels+1)
	for i := range same {
		same[i] = api.Label{Name: "a", Value: "1"}
	}
	wrong := append(append([]api.Label(nil), same[1:]...), api.Label{Name: "-", Value: long})
	for _, e := range []*retag.Engine{retag.Open(1), loaded(t, filter(api.Drop, ".*")), loaded(t, mark("x"))} {
		for _, c := range []struct {
			in   []api.Label
			want api.Errno
		}{
			{same, api.ErrMany}, {make([]api.Label, api.MaxLabels+1), api.ErrMany}, {wrong, api.ErrMany}, {wrong[1:], api.ErrLabel},
			{labels("=1"), api.ErrLabel}, {labels("="), api.ErrLabel}, {labels("a=1", "1="), api.ErrLabel}, {labels("é=1"), api.ErrLabel},
			{labels("a=" + long), api.ErrLabel}, {labels("a="+long, "a=1"), api.ErrLabel}, {labels("a=1", "a-b=2"), api.ErrLabel},
			{labels(strings.Repeat("n", api.MaxName+1) + "=1"), api.ErrLabel},
		} {
			if list, kept, errno := e.Relabel(c.in); len(list) != 0 || kept || errno != c.want {
				t.Errorf("Relabel(%v) = %v, %v, %d, want %d", c.in, list, kept, errno, c.want)
			}
		}
	}
	name := strings.Repeat("n", api.MaxName)
	wantRelabel(t, retag.Open(1), labels(name+"="+long[1:]), name+"="+long[1:])
	wantRelabel(t, retag.Open(1), same[1:], "a=1")
}

// TestRelabelSharesNoRoom writes over all that was handed in and came out.
func TestRelabelSharesNoRoom(t *testing.T) {
	for _, rules := range [][]api.Rule{
		nil, chain(mark("x")), chain(byName(api.LabelDrop, "b", "")), chain(byName(api.LabelMap, "(.*)", "x$1"), byName(api.LabelKeep, "x.*", "")), chain(filter(api.Keep, "")),
	} {
		e := loaded(t, rules...)
		fresh := func() []api.Label { return labels("c=3", "a=1", "b=2", "b=4", "c=", "spare=5", "spare=6") }
		in := fresh()
		first, _, _ := e.Relabel(in[:5])
		want := tell(first, true)
		if !reflect.DeepEqual(in, fresh()) {
			t.Errorf("%+v: what was handed in has become %v", rules, in)
		}
		second, _, _ := e.Relabel(in[:5])
		scribble(first)
		if got := tell(second, true); got != want {
			t.Errorf("%+v: two answers share room: %s, want %s", rules, got, want)
		}
		scribble(second)
		if !reflect.DeepEqual(in, fresh()) {
			t.Errorf("%+v: what came out shares room with what was handed in: %v", rules, in)
		}
		scribble(in)
		wantRelabel(t, e, fresh()[:5], want)
	}
}

// scribble writes over a list and its spare room.
func scribble(list []api.Label) {
	room := list[:cap(list)]
	for i := range room {
		room[i] = api.Label{Name: "scribble", Value: "scribble"}
	}
}

// TestReadme holds what README.md shows to what the engine answers.
func TestReadme(t *testing.T) {
	e := loaded(t,
		api.Rule{Action: api.Replace, Sources: []string{"host", "port"}, Separator: ":", Regex: "(.*):(.*)", Target: "address", Replacement: "$1:$2"},
		api.Rule{Action: api.Drop, Sources: []string{"host"}, Regex: "test.*"},
		api.Rule{Action: api.LabelDrop, Regex: "port"})
	wantRelabel(t, e, labels("host=a", "port=80"), "address=a:80 host=a")
	wantLoad(t, e, []api.Rule{{Action: api.Keep, Regex: "a**"}}, api.ErrRegex, 0, 2)
	wantCached(t, e, 1)
	wantRelabel(t, e, labels("host=a", "port=80"), "address=a:80 host=a")
	wantRelabel(t, e, labels("host=test1", "port=80"), "-")
	e.Flush()
	wantCached(t, e, 0)
}
