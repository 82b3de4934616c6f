package series_test

import (
	"reflect"
	"strconv"
	"strings"
	"testing"
	"unsafe"

	"retag/api"
	"retag/series"
)

// labels takes name, value, name, value and so on.
func labels(texts ...string) []api.Label {
	var out []api.Label
	for i := 0; i < len(texts); i += 2 {
		out = append(out, api.Label{Name: texts[i], Value: texts[i+1]})
	}
	return out
}

func readSeries(t *testing.T, list []api.Label) series.Series {
	t.Helper()
	s, errno := series.Read(list)
	if errno != api.OK {
		t.Fatalf("Read(%v) = %v, %d", list, s, errno)
	}
	return s
}

func read(t *testing.T, list []api.Label) *series.Labels {
	t.Helper()
	return readSeries(t, list).Labels()
}

func TestIsName(t *testing.T) {
	for _, text := range []string{"a", "z", "A", "Z", "_", "__", "_0", "a9", "aZ_09", strings.Repeat("n", api.MaxName)} {
		if !series.IsName(text) {
			t.Errorf("%q is no name", text)
		}
	}
	for _, text := range []string{"", "0", "9a", "-", "a-", "a b", "a.", "a$", "a:b", "@", "[", "`", "{", "a/", "a:", "é", "aé", "a\xff", "a\x00", "a\n", strings.Repeat("n", api.MaxName+1)} {
		if series.IsName(text) {
			t.Errorf("%q is a name", text)
		}
	}
	for b := range 256 {
		text := string([]byte{byte(b)})
		letter := strings.Contains("abcdefghijklmnopqrstuvwxyzABCDEFGHIJKLMNOPQRSTUVWXYZ_", text)
		digit := strings.Contains("0123456789", text)
		if series.IsName(text) != letter || series.IsName("a"+text) != (letter || digit) {
			t.Errorf("the byte %d: %v, behind a %v", b, series.IsName(text), series.IsName("a"+text))
		}
	}
}

func TestReadSortsAndCountsTheLater(t *testing.T) {
	for _, c := range []struct{ in, want []api.Label }{
		{nil, nil},
		{labels("b", "2", "a", "1"), labels("a", "1", "b", "2")},
		{labels("a", "1", "_", "2", "B", "3", "A", "4", "aa", "5", "a0", "6"), labels("A", "4", "B", "3", "_", "2", "a", "1", "a0", "6", "aa", "5")},
		{labels("a", "1", "b", "2", "a", "3"), labels("a", "3", "b", "2")},
		{labels("a", "1", "a", ""), nil},
		{labels("a", "", "a", "1"), labels("a", "1")},
		{labels("a", "1", "a", "", "a", "2"), labels("a", "2")},
		{labels("a", "", "b", ""), nil},
		{labels("a", "\xff\x00é"), labels("a", "\xff\x00é")},
	} {
		if got := read(t, c.in).List(); len(got)+len(c.want) > 0 && !reflect.DeepEqual(got, c.want) {
			t.Errorf("Read(%v) holds %v, want %v", c.in, got, c.want)
		}
	}
}

func TestReadRefuses(t *testing.T) {
	long := strings.Repeat("v", api.MaxValue+1)
	many := make([]api.Label, api.MaxLabels+1)
	same := make([]api.Label, api.MaxLabels+1)
	for i := range same {
		same[i] = api.Label{Name: "a", Value: "1"}
	}
	for _, c := range []struct {
		in   []api.Label
		want api.Errno
	}{
		{many, api.ErrMany}, {same, api.ErrMany}, {same[:api.MaxLabels], api.OK}, {many[:api.MaxLabels], api.ErrLabel},
		{labels("", "1"), api.ErrLabel}, {labels("", ""), api.ErrLabel}, {labels("a", "1", "1", ""), api.ErrLabel},
		{labels("a", long), api.ErrLabel}, {labels("a", long, "a", "1"), api.ErrLabel}, {labels("a", "1", "b", long), api.ErrLabel},
		{labels("a", long[1:]), api.OK}, {labels("a-b", "1"), api.ErrLabel},
		{labels(strings.Repeat("n", api.MaxName), "1"), api.OK}, {labels(strings.Repeat("n", api.MaxName+1), "1"), api.ErrLabel},
	} {
		if s, errno := series.Read(c.in); errno != c.want || (s == series.Series{}) != (c.want != api.OK) {
			t.Errorf("Read(%v) = %v, %d, want %d", c.in, s, errno, c.want)
		}
	}
}

func TestSet(t *testing.T) {
	long := strings.Repeat("é", api.MaxValue) // of two bytes each
	for _, c := range []struct {
		name, value string
		want        []api.Label
	}{
		{"b", "9", labels("b", "9", "d", "4")}, {"d", "9", labels("b", "2", "d", "9")},
		{"a", "9", labels("a", "9", "b", "2", "d", "4")}, {"c", "9", labels("b", "2", "c", "9", "d", "4")}, {"e", "9", labels("b", "2", "d", "4", "e", "9")},
		{"b", "", labels("d", "4")}, {"d", "", labels("b", "2")}, {"c", "", labels("b", "2", "d", "4")},
		{"b", long, labels("b", long[:api.MaxValue], "d", "4")}, {"c", long[:api.MaxValue+1], labels("b", "2", "c", long[:api.MaxValue], "d", "4")},
		{"c", "x" + long, labels("b", "2", "c", ("x" + long)[:api.MaxValue], "d", "4")}, {"c", long[:api.MaxValue], labels("b", "2", "c", long[:api.MaxValue], "d", "4")},
	} {
		l := read(t, labels("b", "2", "d", "4"))
		l.Set(c.name, c.value)
		if got := l.List(); !reflect.DeepEqual(got, c.want) {
			t.Errorf("Set(%q, %q): %v, want %v", c.name, c.value, got, c.want)
		}
		if got := l.Value(c.name); len(c.value) <= api.MaxValue && got != c.value {
			t.Errorf("behind Set(%q, %q) the value is %q", c.name, c.value, got)
		}
	}
}

func TestValue(t *testing.T) {
	l := read(t, labels("b", "2", "d", "4"))
	for name, want := range map[string]string{"a": "", "b": "2", "c": "", "d": "4", "e": "", "": "", "B": ""} {
		if got := l.Value(name); got != want {
			t.Errorf("Value(%q) = %q, want %q", name, got, want)
		}
	}
}

func TestSetWhereThereIsNoRoom(t *testing.T) {
	l := read(t, nil)
	for i := range api.MaxSeries + 3 {
		l.Set("n"+strconv.Itoa(100+i), "v")
	}
	if got := l.List(); len(got) != api.MaxSeries || got[api.MaxSeries-1].Name != "n159" {
		t.Fatalf("%d labels: %v", len(got), got)
	}
	for _, name := range []string{"a", "n1305", "z"} {
		l.Set(name, "x")
		l.Set(name, "")
		if got := l.List(); len(got) != api.MaxSeries || l.Value(name) != "" {
			t.Errorf("%s was set, or took one away: %d labels", name, len(got))
		}
	}
	for _, name := range []string{"n100", "n130", "n159"} {
		l.Set(name, "x")
		if got := l.List(); len(got) != api.MaxSeries || l.Value(name) != "x" {
			t.Errorf("%s was not set: %d labels", name, len(got))
		}
	}
	l.Set("n130", "")
	l.Set("a", "x")
	l.Set("b", "x")
	if got := l.List(); len(got) != api.MaxSeries || l.Value("a") != "x" || l.Value("b") != "" {
		t.Errorf("room for one: %v", got)
	}
}

func TestTakeAway(t *testing.T) {
	l := read(t, labels("a", "1", "ab", "2", "b", "3"))
	l.TakeAway(func(name string) bool { return strings.HasPrefix(name, "a") })
	if got := l.List(); !reflect.DeepEqual(got, labels("b", "3")) {
		t.Errorf("left: %v", got)
	}
	l.TakeAway(func(name string) bool { return true })
	if got := l.List(); len(got) != 0 {
		t.Errorf("left: %v", got)
	}
}

func TestListsAreTheCallers(t *testing.T) {
	in := labels("c", "3", "a", "1", "b", "2", "spare", "4")
	before := labels("c", "3", "a", "1", "b", "2", "spare", "4")
	l := read(t, in[:3])
	l.Set("a", "9")
	l.Set("d", "9")
	l.TakeAway(func(name string) bool { return name == "b" })
	if !reflect.DeepEqual(in, before) {
		t.Errorf("what was handed in has become %v", in)
	}
	got := l.List()
	for i := range got[:cap(got)] {
		got[:cap(got)][i] = api.Label{Name: "x", Value: "x"}
	}
	for i := range in {
		in[i] = api.Label{Name: "y", Value: "y"}
	}
	if again := l.List(); !reflect.DeepEqual(again, labels("a", "9", "c", "3", "d", "9")) {
		t.Errorf("the labels have become %v", again)
	}
}

func TestSameSeries(t *testing.T) {
	for _, lists := range [][][]api.Label{
		{nil, labels("a", ""), labels("a", "1", "a", ""), labels("b", "", "a", "")},
		{labels("a", "1"), labels("a", "2", "a", "1"), labels("a", "", "a", "1"), labels("b", "", "a", "1", "c", ""), labels("b", "1", "a", "1", "b", "")},
		{labels("a", "1", "b", "2"), labels("b", "2", "a", "1"), labels("a", "9", "b", "2", "a", "1", "b", "2")},
	} {
		for _, list := range lists {
			if readSeries(t, list) != readSeries(t, lists[0]) {
				t.Errorf("%v and %v are not the same series", list, lists[0])
			}
		}
	}
}

// TestDifferentSeries takes such as are alike when their texts are laid one
// behind the other, with or without something between.
func TestDifferentSeries(t *testing.T) {
	lists := [][]api.Label{
		nil, labels("a", "b1"), labels("ab", "1"), labels("a", "1", "b", "2"), labels("a", "2", "b", "1"), labels("a", "1b2"),
		labels("a", "1=b=2"), labels("a", "1,b=2"), labels("a", "1\x00b\x002"), labels("a", "1\xffb\xff2"), labels("a", "1", "b2", "c", "c", "3"),
		labels("a", "1", "b", "2c", "c", "3"), labels("a", "1b2c", "c", "3"), labels("a", "1"), labels("A", "1"), labels("b", "1"), labels("a", "b"), labels("b", "a"),
		labels("a", "\x00"), labels("a", "\x00\x00"), labels("a", "\xff"), labels("a", "\xfe"), labels("a", "\ufffd"), labels("a", "é"), labels("a", "e\u0301"), labels("a", " "), labels("a", "1 "),
	}
	for i, one := range lists {
		for _, other := range lists[:i] {
			if readSeries(t, one) == readSeries(t, other) {
				t.Errorf("%q and %q are the same series", one, other)
			}
		}
	}
}

func TestSeriesStaysWhileItsLabelsAreRewritten(t *testing.T) {
	s := readSeries(t, labels("b", "2", "a", "1"))
	first := s.Labels()
	first.Set("a", "9")
	first.Set("c", "9")
	first.TakeAway(func(name string) bool { return name == "b" })
	if got := s.Labels().List(); !reflect.DeepEqual(got, labels("a", "1", "b", "2")) || s != readSeries(t, got) {
		t.Errorf("the series has become %v", got)
	}
}

func TestReadKeepsNoTexts(t *testing.T) {
	room := []byte("ab12")
	s := readSeries(t, []api.Label{{Name: unsafe.String(&room[0], 2), Value: unsafe.String(&room[2], 2)}})
	copy(room, "zzzz")
	if got := s.Labels().List(); !reflect.DeepEqual(got, labels("ab", "12")) {
		t.Errorf("the series has become %v", got)
	}
}

func TestCutValueHoldsNoMore(t *testing.T) {
	long := strings.Repeat("v", 10*api.MaxValue)
	l := read(t, nil)
	l.Set("a", long)
	if value := l.Value("a"); value != long[:api.MaxValue] || unsafe.StringData(value) == unsafe.StringData(long) {
		t.Errorf("the value %q holds on to all that it was cut from", value)
	}
}
