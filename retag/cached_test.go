package retag_test

import (
	"fmt"
	"math/rand"
	"reflect"
	"strconv"
	"strings"
	"testing"
	"unsafe"

	"retag/api"
	"retag/retag"
)

func wantCached(t *testing.T, e *retag.Engine, want int) {
	t.Helper()
	if got := e.Cached(); got != want {
		t.Errorf("Cached() = %d, want %d", got, want)
	}
}

// numbered is a series of its own for each number.
func numbered(number int) []api.Label {
	return labels("n=" + strconv.Itoa(number))
}

func TestCachedOfDifferentSeries(t *testing.T) {
	for cache, most := range map[int]int{
		-1 << 63: 1, -1: 1, 0: 1, 1: 1, 2: 2, 7: 7, api.MaxCache - 1: api.MaxCache - 1,
		api.MaxCache: api.MaxCache, api.MaxCache + 1: api.MaxCache, 1000: api.MaxCache, 1<<63 - 1: api.MaxCache,
	} {
		e := retag.Open(cache)
		wantCached(t, e, 0)
		for number := range 2*api.MaxCache + 3 {
			for _, asked := range []int{number, number / 2, number, 0} {
				wantRelabel(t, e, numbered(asked), fmt.Sprint("n=", asked))
				wantCached(t, e, min(number+1, most))
			}
		}
	}
}

func TestCachedOfTheSameSeries(t *testing.T) {
	for _, lists := range [][][]api.Label{
		{nil, {}, labels("a="), labels("a=1", "a="), labels("b=", "a=")},
		{labels("a=1"), labels("a=1", "a=1"), labels("a=2", "a=1"), labels("a=", "a=1"), labels("c=", "a=1", "b="), labels("b=1", "a=1", "b=")},
		{labels("a=1", "b=2", "c=3"), labels("c=3", "b=2", "a=1"), labels("b=2", "c=3", "a=1"), labels("a=3", "b=1", "c=2", "d=4", "c=3", "a=1", "d=", "b=2")},
	} {
		e := loaded(t, byName(api.LabelMap, "(.*)", "x$1"))
		first, _, _ := e.Relabel(lists[0])
		for range 2 {
			for _, list := range lists {
				wantRelabel(t, e, list, tell(first, true))
				wantCached(t, e, 1)
			}
		}
		wantRelabel(t, e, labels("z=1"), "xz=1 z=1")
		wantCached(t, e, 2)
	}
}

// TestSeriesAreNotTakenForOneAnother asks for such as are alike when their
// texts are laid one behind the other, with or without something between.
func TestSeriesAreNotTakenForOneAnother(t *testing.T) {
	lists := [][]api.Label{
		nil, labels("a=b1"), labels("ab=1"), labels("a=1", "b=2"), labels("a=2", "b=1"), labels("a=1b2"), labels("a=1=b=2"), labels("a=1,b=2"), labels("a=1;b=2"), labels("a=1 b=2"),
		labels("a=1\x00b\x002"), labels("a=1\x00", "b=2"), labels("a=1\xffb\xff2"), labels("a=1\nb=2"), labels("a=1b", "b=2"), labels("a=1", "b=b2"), labels("a=1", "bb=2"),
		labels("a=1"), labels("A=1"), labels("b=1"), labels("a=a"), labels("aa=a"), labels("a=aa"), labels("a=\x00"), labels("a=\x00\x00"), labels("a=\xff"), labels("a=\xfe"), labels("a=\ufffd"),
		labels("a=\""), labels("a=\\\""), labels("a=1\",b=\"2"), labels("a=3b1", "b=2"), labels("a=3", "b=1b2"), labels("a= 1"), labels("a=1 "), labels("a=01"),
	}
	for _, rules := range [][]api.Rule{nil, chain(byName(api.LabelMap, "(.*)", "x$1")), chain(filter(api.Drop, "1.*", "a")), chain(byName(api.LabelKeep, "a", ""))} {
		e := retag.Open(api.MaxCache)
		wantLoad(t, e, rules, api.OK, 0, 0)
		for range 2 {
			for _, list := range lists {
				wantRelabel(t, e, list, told(rules, list))
			}
			wantCached(t, e, len(lists))
		}
	}
}

func TestCachedOfDroppedSeries(t *testing.T) {
	e := loaded(t, filter(api.Drop, "[13579]", "n"))
	for number := range 9 {
		for range 2 {
			want := fmt.Sprint("n=", number)
			if number%2 == 1 {
				want = "-"
			}
			wantRelabel(t, e, numbered(number), want)
			wantCached(t, e, min(number+1, 5))
		}
	}
}

// TestCachedCountsWhatWasAskedFor: that all come to the same answer is nothing
// to it.
func TestCachedCountsWhatWasAskedFor(t *testing.T) {
	e := loaded(t, byName(api.LabelDrop, ".*", ""))
	for number := range 4 {
		wantRelabel(t, e, numbered(number), "")
	}
	wantCached(t, e, 4)
}

func TestCachedBehindRefusedRelabel(t *testing.T) {
	e := retag.Open(3)
	for asked := range 5 {
		for _, wrong := range [][]api.Label{
			make([]api.Label, api.MaxLabels+1), labels("=1"), labels("1=1"), labels("n=1", "-="), labels("n=" + strings.Repeat("v", api.MaxValue+1)),
			labels("n="+strings.Repeat("v", api.MaxValue+1), "n=1"), labels(strings.Repeat("n", api.MaxName+1) + "=1"),
		} {
			if list, kept, errno := e.Relabel(wrong); len(list) != 0 || kept || errno == api.OK {
				t.Errorf("Relabel(%v) = %v, %v, %d", wrong, list, kept, errno)
			}
			wantCached(t, e, min(asked, 3))
		}
		wantRelabel(t, e, numbered(asked), fmt.Sprint("n=", asked))
	}
}

// ask asks for so many series, twice, and holds Cached to it.
func ask(t *testing.T, e *retag.Engine, series, want int) {
	t.Helper()
	for range 2 {
		for number := range series {
			e.Relabel(numbered(number))
		}
		wantCached(t, e, want)
	}
}

func TestCachedBehindLoad(t *testing.T) {
	for _, series := range []int{0, 1, 3, 4, 9} {
		most := min(series, 4)
		e := retag.Open(4)
		ask(t, e, series, most)
		for _, rules := range [][]api.Rule{nil, {}, chain(mark("x")), chain(mark("x")), repeated(mark("x"), api.MaxRules), chain(filter(api.Drop, "")), nil} {
			wantLoad(t, e, rules, api.OK, 0, 0)
			wantCached(t, e, 0)
			ask(t, e, series, most)
		}
		wantLoad(t, e, repeated(mark("x"), api.MaxRules+1), api.ErrMany, 0, 0)
		wantCached(t, e, most)
		wantLoad(t, e, chain(mark("x"), api.Rule{Action: -1}), api.ErrAction, 1, 0)
		wantCached(t, e, most)
		wantLoad(t, e, chain(filter(api.Keep, "a**")), api.ErrRegex, 0, 2)
		wantCached(t, e, most)
		wantLoad(t, e, chain(hashMod(0)), api.ErrModulus, 0, 0)
		ask(t, e, series, most)
	}
}

func TestFlush(t *testing.T) {
	for _, series := range []int{0, 1, 3, 4, 9} {
		e := retag.Open(4)
		e.Flush()
		wantCached(t, e, 0)
		wantLoad(t, e, chain(mark("x")), api.OK, 0, 0)
		for range 3 {
			ask(t, e, series, min(series, 4))
			e.Flush()
			wantCached(t, e, 0)
			e.Flush()
			wantCached(t, e, 0)
			wantRelabel(t, e, labels("a=1"), "a=1 m=x")
			wantCached(t, e, 1)
			e.Flush()
		}
	}
}

func TestEnginesRememberInTurns(t *testing.T) {
	first, second, third := retag.Open(2), retag.Open(5), retag.Open(5)
	wantLoad(t, first, chain(mark("x")), api.OK, 0, 0)
	wantLoad(t, second, chain(mark("y")), api.OK, 0, 0)
	for number := range 8 {
		want := fmt.Sprint("n=", number)
		for range 2 {
			wantRelabel(t, first, numbered(number), "m=x "+want)
			wantRelabel(t, second, numbered(number), "m=y "+want)
			wantCached(t, first, min(number+1, 2))
			wantCached(t, second, min(number+1, 5))
			wantCached(t, third, 0)
		}
	}
	wantRelabel(t, third, numbered(1), "n=1")
	first.Flush()
	wantCached(t, first, 0)
	wantCached(t, second, 5)
	wantLoad(t, second, nil, api.OK, 0, 0)
	wantCached(t, second, 0)
	wantCached(t, third, 1)
	wantRelabel(t, first, numbered(1), "m=x n=1")
	wantRelabel(t, second, numbered(1), "n=1")
}

func TestOtherRulesCountFromTheirLoadOn(t *testing.T) {
	e := retag.Open(3)
	series := [][]api.Label{nil, labels("a=1"), labels("a=2"), labels("a=1", "b=2"), labels("m=9")}
	for _, rules := range [][]api.Rule{
		nil, chain(mark("x")), chain(mark("y")), chain(filter(api.Keep, "1", "a")), chain(filter(api.Drop, "1", "a")), chain(byName(api.LabelDrop, "a", "")), chain(mark("x")), {},
	} {
		wantLoad(t, e, rules, api.OK, 0, 0)
		for range 2 {
			for _, asked := range series {
				wantRelabel(t, e, asked, told(rules, asked))
			}
			wantLoad(t, e, chain(mark("wrong"), filter(api.Keep, "(")), api.ErrRegex, 1, 1)
			e.Relabel(labels("1=1"))
		}
	}
}

// TestAnswersAgain asks for a series that is remembered, one that was
// forgotten, and writes over all that came out and was handed in.
func TestAnswersAgain(t *testing.T) {
	for _, rules := range [][]api.Rule{
		nil, chain(mark("x")), chain(byName(api.LabelDrop, "b", "")), chain(byName(api.LabelMap, "(.*)", "x$1")), chain(filter(api.Drop, "1", "a")), chain(byName(api.LabelDrop, ".*", "")),
	} {
		for _, forget := range []func(e *retag.Engine){
			func(*retag.Engine) {}, (*retag.Engine).Flush, func(e *retag.Engine) { ask(t, e, 9, 5) }, func(e *retag.Engine) { e.Load(rules) },
		} {
			e := loaded(t, rules...)
			fresh := func() []api.Label { return labels("c=3", "a=1", "b=2", "spare=5") }
			want := told(rules, fresh()[:3])
			for range 4 {
				in := fresh()
				first, kept, _ := e.Relabel(in[:3])
				second, _, _ := e.Relabel(in[:3])
				if tell(first, kept) != want || tell(second, kept) != want || !reflect.DeepEqual(in, fresh()) {
					t.Errorf("%+v: %v, %v, want %s; what was handed in is %v", rules, first, second, want, in)
				}
				scribble(first)
				if tell(second, kept) != want {
					t.Errorf("%+v: two answers share room: %v", rules, second)
				}
				scribble(second)
				scribble(in)
				wantRelabel(t, e, fresh()[:3], want)
				forget(e)
			}
		}
	}
}

// TestRelabelKeepsNoTexts writes over the bytes of what was handed in: neither
// what is remembered nor what came out may stand in them.
func TestRelabelKeepsNoTexts(t *testing.T) {
	for _, rules := range [][]api.Rule{nil, chain(byName(api.LabelMap, "(.*)", "x$1")), chain(replace("(.*)", "$1", "$1", "ab")), chain(aim(api.Lowercase, "l", "ab"))} {
		e := loaded(t, rules...)
		room := []byte("abvw")
		want := told(rules, labels("ab=vw"))
		in := []api.Label{{Name: unsafe.String(&room[0], 2), Value: unsafe.String(&room[2], 2)}}
		first, _, _ := e.Relabel(in)
		second, _, _ := e.Relabel(in)
		copy(room, "pqrs")
		if tell(first, true) != want || tell(second, true) != want {
			t.Errorf("%+v: the answers have become %v, %v, want %s", rules, first, second, want)
		}
		wantRelabel(t, e, labels("ab=vw"), want)
		wantCached(t, e, 1)
		wantRelabel(t, e, labels("pq=rs"), told(rules, labels("pq=rs")))
		wantCached(t, e, 2)
	}
}

// sameAs tells a series in another order, with a value that does not count
// ahead and one that is empty beside, as far as there is room.
func sameAs(random *rand.Rand, series []api.Label) []api.Label {
	counts := map[string]string{}
	for _, label := range series {
		counts[label.Name] = label.Value
	}
	var out []api.Label
	for name, value := range counts {
		out = append(out, api.Label{Name: name, Value: value})
	}
	random.Shuffle(len(out), func(i, j int) { out[i], out[j] = out[j], out[i] })
	if len(out) > 0 && len(out) < api.MaxLabels {
		out = append([]api.Label{{Name: out[0].Name, Value: "other"}}, out...)
	}
	if len(out) < api.MaxLabels {
		out = append(out, api.Label{Name: "nothing"})
	}
	return out
}

// TestNobodyNoticesWhatIsRemembered goes long ways of calls, and holds each
// answer to a second telling of the rules, and Cached to a plain set.
func TestNobodyNoticesWhatIsRemembered(t *testing.T) {
	random := rand.New(rand.NewSource(2))
	for range 60 {
		cache := random.Intn(api.MaxCache+4) - 1
		if random.Intn(2) == 0 {
			cache = random.Intn(6)
		}
		most := max(1, min(cache, api.MaxCache))
		e := retag.Open(cache)
		var rules []api.Rule
		var pool [][]api.Label
		for range 1 + random.Intn(2*most+3) {
			pool = append(pool, someLabels(random))
		}
		asked := map[string]bool{}
		for range 300 {
			switch random.Intn(120) {
			case 0:
				rules, asked = someChain(random), map[string]bool{}
				wantLoad(t, e, rules, api.OK, 0, 0)
			case 1:
				wantLoad(t, e, rules, api.OK, 0, 0)
				asked = map[string]bool{}
			case 2:
				e.Flush()
				asked = map[string]bool{}
			case 3:
				wantLoad(t, e, chain(mark("wrong"), api.Rule{Action: 11}), api.ErrAction, 1, 0)
			case 4:
				e.Relabel(append(pool[0][:len(pool[0]):len(pool[0])], api.Label{Name: "1", Value: "1"}))
			default:
				series := pool[random.Intn(len(pool))]
				in := sameAs(random, series)
				list, kept, errno := e.Relabel(in)
				if want := told(rules, series); tell(list, kept) != want || errno != api.OK {
					t.Fatalf("%+v: Relabel(%v) = %v, %v, %d, want %s", rules, in, list, kept, errno, want)
				}
				scribble(list)
				scribble(in)
				asked[told(nil, series)] = true
			}
			wantCached(t, e, min(len(asked), most))
		}
	}
}
