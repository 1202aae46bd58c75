package store_test

import (
	"fmt"
	"math"
	"slices"
	"strings"
	"testing"

	"weir/api"
	"weir/store"
)

// refusal: what Check and Load are to answer.
type refusal struct {
	d api.Dataset
	i int
	e api.Errno
}

func checkRefusals(t *testing.T, list []refusal) {
	t.Helper()
	for _, c := range list {
		if i, e := store.Check(c.d); i != c.i || e != c.e {
			t.Errorf("Check of %s = %d, %d; want %d, %d", brief(c.d), i, e, c.i, c.e)
		}
		if s, i, e := store.Load(c.d); i != c.i || e != c.e || (s == nil) != (c.e != 0) {
			t.Errorf("Load of %s = %v, %d, %d; want %d, %d", brief(c.d), s != nil, i, e, c.i, c.e)
		}
		checkCheck(t, c.d)
	}
}

// many: n series, each with points of its own.
func many(n, points int) []api.Series {
	var list []api.Series
	for i := range n {
		list = append(list, series(set("id", fmt.Sprint(i)), run(points)...))
	}
	return list
}

// P19.1: the chapter's example; no series, series without points and without labels; MaxSeries series and one more.
func TestCheckSizes(t *testing.T) {
	three := example()
	three.Series = append(three.Series, series(set("__name__", "up", "job", "b")))
	wrong := series(set("a", ""), point(math.MaxInt64, 1))
	checkRefusals(t, []refusal{
		{three, 2, api.ErrDup},
		{example(), 0, 0},
		{api.Dataset{}, 0, 0},
		{data([]api.Series{}...), 0, 0},
		{data(api.Series{}), 0, 0},
		{data(series(nil, point(0, 1))), 0, 0},
		{data(series([]api.Label{}), series(set("a", "1"))), 0, 0},
		{data(many(1000, 0)...), 0, 0},
		{data(many(1001, 0)...), 1000, api.ErrSize},
		{data(many(1002, 0)...), 1000, api.ErrSize},
		{data(many(5000, 0)...), 1000, api.ErrSize},
		{data(make([]api.Series, 1001)...), 1000, api.ErrSize},
		{data(make([]api.Series, 1000)...), 1, api.ErrDup},
		{data(append(many(1000, 0), wrong)...), 1000, api.ErrSize},
		{data(append([]api.Series{wrong}, many(1000, 0)...)...), 1000, api.ErrSize},
		{data(append([]api.Series{wrong}, many(999, 0)...)...), 0, api.ErrSeries},
		{data(append(many(999, 0), wrong)...), 999, api.ErrSeries},
	})
}

// P19.1, rule 1 of a dataset: lists that are no label sets, alone and among others; MaxLabels labels and one more.
func TestCheckSets(t *testing.T) {
	good := series(set("a", "1"))
	for _, ls := range wrongSets() {
		wrong := series(ls)
		checkRefusals(t, []refusal{
			{data(wrong), 0, api.ErrSeries},
			{data(good, wrong), 1, api.ErrSeries},
			{data(wrong, good, good), 0, api.ErrSeries},
			{data(good, series(nil), wrong, wrong), 2, api.ErrSeries},
			{data(wrong, wrong), 0, api.ErrSeries},
		})
	}
	unsorted := wide(32)
	unsorted[30], unsorted[31] = unsorted[31], unsorted[30]
	twice := wide(32)
	twice[31].Name = twice[30].Name
	last := wide(32)
	last[31].Value = ""
	checkRefusals(t, []refusal{
		{data(series(wide(31)), series(wide(32))), 0, 0},
		{data(series(wide(32)), series(wide(33))), 1, api.ErrSeries},
		{data(series(wide(1000))), 0, api.ErrSeries},
		{data(series(unsorted)), 0, api.ErrSeries},
		{data(series(twice)), 0, api.ErrSeries},
		{data(series(last)), 0, api.ErrSeries},
	})
}

// P19.1, rules 2 and 3 of a dataset: names and values of just MaxName and MaxValue bytes (bytes, not runes) and one more, in the first label, the last and the metric's name; values of __name__ that are no metric's name.
func TestCheckTexts(t *testing.T) {
	text := strings.Repeat
	var list []refusal
	for more, e := range []api.Errno{0, api.ErrLong} {
		for _, ls := range [][]api.Label{
			set(text("n", 128+more), "1"),
			set("a", "1", text("n", 128+more), "1", "z", "1"),
			set("a", "1", text("z", 128+more), "1"),
			set("_", text("v", 512+more)),
			set("a", "1", "b", text("v", 512+more), "c", "1"),
			set("a", "1", "b", text("v", 512+more)),
			set("a", text("é", 256)+text("x", more)),
			set("a", text("日", 170)+text("x", 2+more)),
			set("__name__", text("m", 512+more)),
			set("__name__", text(":", 512+more), "a", "1"),
			set("a", text("\x00", 512+more)),
			set(text("n", 128+more), text("v", 512+more)),
		} {
			list = append(list, refusal{data(series(ls)), 0, e})
			if e != 0 {
				list = append(list, refusal{data(series(nil), series(ls)), 1, e})
			}
		}
	}
	list = append(list, refusal{data(series(set("a", text("v", 1<<20)))), 0, api.ErrLong})
	for _, name := range []string{"up", "a:b", ":", "_", ":0", "A9", "sum", "nan", "a__:"} {
		list = append(list, refusal{data(series(set("__name__", name))), 0, 0})
	}
	for _, name := range []string{"a b", "0", "9a", "é", "a.b", "a-b", " ", "\x00", "aé", "a\n", "a{}", `"a"`} {
		list = append(list, refusal{data(series(set("__name__", name))), 0, api.ErrName})
		list = append(list, refusal{data(series(nil), series(set("A", "1", "__name__", name, "a", "1")), series(nil)), 1, api.ErrName})
		list = append(list, refusal{data(series(set("_name__", name)), series(set("__name__a", name)), series(set("__name", name))), 0, 0})
	}
	checkRefusals(t, list)
}

// P19.1, rule 4 of a dataset: the same label set side by side, far apart, with and without points; sets that are nearly the same, and such as a careless text would take for one another.
func TestCheckTwice(t *testing.T) {
	a, b := series(set("a", "1")), series(set("a", "1", "b", "2"))
	far := append(many(999, 1), series(set("id", "0")))
	last := append(many(999, 1), series(set("id", "998"), point(5, 5)))
	middle := append(append(many(500, 1), series(set("id", "499"))), many(400, 0)...)
	checkRefusals(t, []refusal{
		{data(a, a), 1, api.ErrDup},
		{data(a, b, a), 2, api.ErrDup},
		{data(b, a, b, a), 2, api.ErrDup},
		{data(a, b, b, a), 2, api.ErrDup},
		{data(series(nil), a, series([]api.Label{})), 2, api.ErrDup},
		{data(series(set("a", "1"), point(1, 1)), series(set("a", "1"), point(2, 2))), 1, api.ErrDup},
		{data(series(wide(32)), a, series(wide(32))), 2, api.ErrDup},
		{data(series(set("__name__", "up")), series(set("__name__", "up"))), 1, api.ErrDup},
		{data(far...), 999, api.ErrDup},
		{data(last...), 999, api.ErrDup},
		{data(middle...), 500, api.ErrDup},
		{data(a, b, series(set("b", "2")), series(set("a", "1", "b", "1")), series(nil), series(set("a", "11"))), 0, 0},
		{data(series(set("a", `1", b="2`)), b, series(set("a", `1,b=2`)), series(set("a", "1b2"))), 0, 0},
		{data(series(set("__name__", "up")), series(set("job", "up")), series(set("__name__", "up", "job", "up")), series(set("__name__", "job", "up", "up"))), 0, 0},
		{data(series(set("a", "\u00e9")), series(set("a", "e\u0301")), series(set("a", "E")), series(set("a", "e")), series(set("A", "e"))), 0, 0},
		{data(series(set("a", "\n")), series(set("a", `\n`)), series(set("a", "\\\n")), series(set("a", `"`)), series(set("a", `'`)), series(set("a", "\x00")), series(set("a", `\x00`))), 0, 0},
	})
}

// P19.1, rule 5 of a dataset: times at and beyond both ends, the same time twice, falling times, at the first points, between and at the last; of stale points too.
func TestCheckTimes(t *testing.T) {
	const from, to = api.MinTime, api.MaxTime
	good := [][]int64{{}, {0}, {from}, {to}, {from, to}, {from, from + 1, -1, 0, 1, to - 1, to}, {-5, -4}, {5, 6, 7}}
	wrong := [][]int64{
		{from - 1}, {to + 1}, {math.MinInt64}, {math.MaxInt64},
		{from - 1, 0}, {0, to + 1}, {from, to, to + 1}, {0, math.MaxInt64}, {math.MinInt64, 0},
		{from - 1, from, 0}, {0, 1, from - 1, 2}, {0, 1, to + 1, 2},
		{0, 0}, {5, 5, 6}, {4, 5, 5}, {4, 5, 5, 6}, {from, from}, {to, to},
		{1, 0}, {5, 4, 6}, {4, 6, 5}, {1, 2, 3, 2, 4}, {0, 2, 1, 3}, {to, from}, {-4, -5}, {3, 1, 2},
	}
	var list []refusal
	for _, times := range append(slices.Clone(good), wrong...) {
		for _, ends := range []bool{false, true} {
			s := series(set("a", "1"))
			for _, at := range times {
				s.Points = append(s.Points, api.Sample{T: at, Stale: ends})
			}
			i, e := 0, api.OK
			if slices.ContainsFunc(wrong, func(w []int64) bool { return slices.Equal(w, times) }) {
				i, e = 1, api.ErrPoint
			}
			list = append(list, refusal{data(series(nil, run(3)...), s, series(set("b", "1"), point(-9, 1))), i, e})
		}
	}
	late := run(50000)
	late[49999].T = late[49998].T
	list = append(list, refusal{data(series(nil, late...)), 0, api.ErrPoint})
	for _, v := range floats() {
		list = append(list, refusal{data(series(nil, point(0, v), stale(1, v), point(2, v))), 0, 0})
	}
	checkRefusals(t, list)
}

// P19.1, rule 6 of a dataset: MaxSamples points together and one more, in one series, in two, in very many; stale ones count as well.
func TestCheckSamples(t *testing.T) {
	a, b, c := set("a", "1"), set("b", "1"), set("c", "1")
	ends := run(100001)
	for k := range ends {
		ends[k].Stale = true
	}
	more := many(1000, 100)
	more[700].Points = run(101)
	less := many(1000, 100)
	less[0].Points, less[999].Points = run(101), run(99)
	checkRefusals(t, []refusal{
		{data(series(a, run(100000)...)), 0, 0},
		{data(series(a, run(100001)...)), 0, api.ErrSize},
		{data(series(a, ends[:100000]...)), 0, 0},
		{data(series(a, ends...)), 0, api.ErrSize},
		{data(series(a, run(50000)...), series(b, run(50000)...), series(c)), 0, 0},
		{data(series(a, run(50000)...), series(b, run(50001)...), series(c)), 1, api.ErrSize},
		{data(series(a, run(100000)...), series(b), series(c, run(1)...)), 2, api.ErrSize},
		{data(series(a, run(99999)...), series(b), series(c, run(1)...)), 0, 0},
		{data(series(a, run(1)...), series(b, run(100000)...), series(c)), 1, api.ErrSize},
		{data(series(a), series(b, run(100001)...), series(c, run(1)...)), 1, api.ErrSize},
		{data(many(1000, 100)...), 0, 0},
		{data(more...), 999, api.ErrSize},
		{data(less...), 0, 0},
		{data(series(a, run(300000)...)), 0, api.ErrSize},
	})
}

// P19.1: a series that breaks several of the six rules: the first of them counts.
func TestCheckFirstRule(t *testing.T) {
	for bits := range 32 {
		breaks := func(k int) bool { return bits>>k&1 == 1 }
		ls := set("__name__", "up", "a", "1", "b", "2")
		points := []api.Sample{point(1, 1), point(2, 1)}
		want := api.OK
		if breaks(4) {
			points, want = run(100000), api.ErrSize // one more stands ahead
		}
		if breaks(3) {
			points, want = append(points, point(-1, 1)), api.ErrPoint
		}
		if breaks(2) {
			ls[0].Value, want = "a b", api.ErrName
		}
		if breaks(1) {
			ls[1].Value, want = strings.Repeat("v", 513), api.ErrLong
		}
		if breaks(0) {
			ls[2].Value, want = "", api.ErrSeries
		}
		first := series(set("z", "1"), point(0, 1))
		i := min(int(want), 1)
		checkRefusals(t, []refusal{
			{data(first, series(ls, points...)), i, want},
			{data(first, series(ls, points...), series(ls), series(set("a", ""))), []int{2, 1}[i], []api.Errno{api.ErrDup, want}[i]},
		})
	}
	ls := set("a", "1")
	falling := append(run(100000), point(0, 0))
	checkRefusals(t, []refusal{
		{data(series(ls, point(0, 1)), series(ls, point(1, 1), point(1, 1))), 1, api.ErrDup},
		{data(series(ls, point(0, 1)), series(ls, run(100000)...)), 1, api.ErrDup},
		{data(series(ls, point(0, 1)), series(ls, falling...)), 1, api.ErrDup},
		{data(series(ls, point(0, 1)), series(nil, falling...)), 1, api.ErrPoint},
		{data(series(wide(33)), series(nil)), 0, api.ErrSeries},
		{data(series(set("__name__", strings.Repeat("a b", 200)))), 0, api.ErrLong},
		{data(series(set("__name__", "a b", "b", ""))), 0, api.ErrSeries},
		{data(series(set("__name__", "a b", "b", strings.Repeat("v", 513)))), 0, api.ErrLong},
		{data(series(set(strings.Repeat("n", 129), "\xff"))), 0, api.ErrSeries},
		{data(series(set(strings.Repeat("é", 129), "1"))), 0, api.ErrSeries},
	})
}

// P19.1: two series that each break one rule: the one ahead counts, whichever rule it breaks.
func TestCheckFirstSeries(t *testing.T) {
	good := series(set("z", "1"), point(0, 1))
	wrong := []struct {
		s api.Series
		e api.Errno
	}{
		{series(set("a", "")), api.ErrSeries},
		{series(set("b", strings.Repeat("v", 513))), api.ErrLong},
		{series(set("__name__", "a b")), api.ErrName},
		{series(set("z", "1")), api.ErrDup},
		{series(set("c", "1"), point(1, 1), point(1, 1)), api.ErrPoint},
		{series(set("d", "1"), run(100000)...), api.ErrSize},
	}
	for _, a := range wrong {
		for _, b := range wrong {
			checkRefusals(t, []refusal{
				{data(good, a.s, b.s), 1, a.e},
				{data(good, series(nil), a.s, series(wide(2)), b.s, good), 2, a.e},
			})
		}
	}
}

// P19.1: datasets by chance, with slips and without.
func TestCheckByChance(t *testing.T) {
	c := newChance(1)
	seen := map[api.Errno]int{}
	for range 6000 {
		d := c.spoilt(c.dataset(6, 4))
		checkCheck(t, d)
		_, e := store.Check(d)
		seen[e]++
		checkCheck(t, c.dataset(6, 4))
	}
	for _, e := range []api.Errno{0, 190, 1, 191, 6, 192} {
		if seen[e] < 50 {
			t.Errorf("the error %d came %d times", e, seen[e])
		}
	}
}
