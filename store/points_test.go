package store_test

import (
	"math"
	"slices"
	"testing"

	"weir/api"
	"weir/store"
)

// P19.2: the chapter's examples.
func TestExamples(t *testing.T) {
	s := loaded(t, example())
	if got := s.Labels(0); s.Len() != 2 || !slices.Equal(got, set("__name__", "up", "job", "a")) {
		t.Errorf("Labels(0) = %q of %d", got, s.Len())
	}
	for _, c := range []struct {
		i    int
		at   int64
		want api.Sample
		ok   bool
	}{
		{0, 300000, point(299999, 3), true},
		{0, 299998, point(0, 2), true},
		{1, 59999, point(0, 1), true},
		{1, 60000, api.Sample{}, false},
		{0, 599999, api.Sample{}, false},
		{0, 599998, point(299999, 3), true},
	} {
		if got, ok := s.At(c.i, c.at); got != c.want || ok != c.ok {
			t.Errorf("At(%d, %d) = %v, %v", c.i, c.at, got, ok)
		}
	}
	if got := s.Window(0, 0, 299999); !slices.Equal(got, []api.Sample{point(299999, 3)}) {
		t.Errorf("Window(0, 0, 299999) = %v", got)
	}
	if got := s.Window(1, -1, 60000); !slices.Equal(got, []api.Sample{point(0, 1)}) {
		t.Errorf("Window(1, -1, 60000) = %v", got)
	}
	d := s.Data()
	if len(d.Series) != 2 || d.Series[1].Points[1] != (api.Sample{T: 60000, Stale: true}) {
		t.Errorf("Data = %+v", d)
	}
	w := wordsLoad(example())
	checkSeries(t, s, w)
	checkTimes(t, s, w)
}

// P19.2: At just at, ahead of and behind a point's time, at Lookback to the millisecond, over stale points, at the least and the greatest numbers.
func TestAtEdges(t *testing.T) {
	const from, to = api.MinTime, api.MaxTime
	s := loaded(t, data(
		series(nil, point(0, 1), point(1000, 2), stale(2000, 9), stale(3000, 9), point(4000, 3), stale(500000, 9), point(500001, 4)),
		series(set("a", "1"), point(from, 5), point(to, 6)),
		series(set("a", "2")),
		series(set("a", "3"), stale(0, 7)),
		series(set("a", "4"), stale(from, 7), point(from+1, 8), stale(to, 9)),
	))
	none := int64(math.MinInt64)
	for _, c := range []struct {
		i    int
		at   int64
		want int64
	}{
		{0, -1, none}, {0, 0, 0}, {0, 1, 0}, {0, 999, 0}, {0, 1000, 1000}, {0, 1001, 1000}, {0, 1999, 1000},
		{0, 2000, none}, {0, 2001, none}, {0, 2999, none}, {0, 3000, none}, {0, 3999, none}, {0, 4000, 4000},
		{0, 303999, 4000}, {0, 304000, none}, {0, 304001, none}, {0, 499999, none}, {0, 500000, none}, {0, 500001, 500001},
		{0, 800000, 500001}, {0, 800001, none}, {0, math.MaxInt64, none}, {0, math.MinInt64, none},
		{1, from - 1, none}, {1, from, from}, {1, from + 299999, from}, {1, from + 300000, none}, {1, math.MinInt64, none}, {1, math.MinInt64 + 299999, none},
		{1, to - 1, none}, {1, to, to}, {1, to + 299999, to}, {1, to + 300000, none}, {1, math.MaxInt64, none}, {1, math.MaxInt64 - 1, none},
		{2, 0, none}, {2, math.MaxInt64, none}, {2, math.MinInt64, none},
		{3, -1, none}, {3, 0, none}, {3, 1, none}, {3, math.MaxInt64, none},
		{4, from, none}, {4, from + 1, from + 1}, {4, from + 300000, from + 1}, {4, from + 300001, none}, {4, to, none}, {4, to + 1, none},
		{5, 0, none}, {-1, 0, none}, {math.MaxInt, 0, none}, {math.MinInt, 0, none}, {-5, 4000, none},
	} {
		got, ok := s.At(c.i, c.at)
		if ok != (c.want != none) || ok && got.T != c.want || !ok && got != (api.Sample{}) || got.Stale {
			t.Errorf("At(%d, %d) = %v, %v", c.i, c.at, got, ok)
		}
	}
}

// P19.2: Window at its edges: open at the left, closed at the right, with from at and above to, over stale points, of numbers that there are no series of.
func TestWindowEdges(t *testing.T) {
	const least, most = math.MinInt64, math.MaxInt64
	s := loaded(t, data(
		series(nil, point(-10, 1), point(0, 2), stale(5, 9), point(10, 3), stale(20, 9)),
		series(set("a", "1"), point(api.MinTime, 4), point(api.MaxTime, 5)),
		series(set("a", "2")),
		series(set("a", "3"), stale(0, 1), stale(1, 1)),
	))
	for _, c := range []struct {
		i        int
		from, to int64
		want     []int64
	}{
		{0, least, most, []int64{-10, 0, 10}}, {0, -11, 20, []int64{-10, 0, 10}}, {0, -10, 10, []int64{0, 10}}, {0, -10, 9, []int64{0}},
		{0, -11, -10, []int64{-10}}, {0, -10, -10, nil}, {0, -11, -11, nil}, {0, -12, -11, nil}, {0, 4, 5, nil}, {0, 0, 5, nil}, {0, 5, 10, []int64{10}}, {0, 10, most, nil},
		{0, 10, 0, nil}, {0, 11, -11, nil}, {0, most, least, nil}, {0, most, most, nil}, {0, least, least, nil}, {0, 0, -10, nil}, {0, 1, 0, nil}, {0, 0, -1, nil},
		{1, least, most, []int64{api.MinTime, api.MaxTime}}, {1, api.MinTime, api.MaxTime, []int64{api.MaxTime}}, {1, api.MinTime - 1, api.MaxTime - 1, []int64{api.MinTime}}, {1, api.MaxTime, most, nil}, {1, least, api.MinTime - 1, nil},
		{2, least, most, nil}, {2, 0, 0, nil}, {3, least, most, nil},
		{4, least, most, nil}, {-1, least, most, nil}, {math.MaxInt, least, most, nil}, {math.MinInt, least, most, nil}, {-4, least, most, nil},
	} {
		got := s.Window(c.i, c.from, c.to)
		same := slices.EqualFunc(got, c.want, func(p api.Sample, at int64) bool { return p.T == at && !p.Stale })
		if !same {
			t.Errorf("Window(%d, %d, %d) = %v; want %v", c.i, c.from, c.to, got, c.want)
		}
	}
}

// P19.2: values of all kinds come back alike, those of stale points as +0, from At, Window and Data.
func TestValuesStay(t *testing.T) {
	var s api.Series
	for k, v := range floats() {
		s.Points = append(s.Points, point(int64(2*k), v), stale(int64(2*k+1), v))
	}
	x, w := loaded(t, data(s)), wordsLoad(data(s))
	checkSeries(t, x, w)
	checkTimes(t, x, w)
	for k, v := range floats() {
		p, ok := x.At(0, int64(2*k))
		list := x.Window(0, int64(2*k-1), int64(2*k+1))
		if !ok || !like(p, point(int64(2*k), v)) || len(list) != 1 || !like(list[0], p) {
			t.Errorf("of %v: %v, %v, %v", v, p, ok, list)
		}
		if p := x.Data().Series[0].Points[2*k+1]; !p.Stale || math.Float64bits(p.V) != 0 {
			t.Errorf("a stale point: %v", p)
		}
	}
}

// P19.2: the series' numbers follow the canonical order: by name, then value, label by label, what ends first ahead, byte by byte.
func TestCanonicalOrder(t *testing.T) {
	want := [][]api.Label{
		nil,
		set("A", "z"),
		set("__name__", "B"),
		set("__name__", "a"),
		set("__name__", "a", "a", "1"),
		set("__name__", "a", "a", "1", "b", "1"),
		set("__name__", "a", "a", "2"),
		set("__name__", "a", "b", "0"),
		set("__name__", "aa"),
		set("__name__", "b"),
		set("a", "1"),
		set("a", "1", "z", "1"),
		set("a", "10"),
		set("a", "2", "b", "1"),
		set("a", "é"),
		set("aa", "0"),
		set("b", "0"),
	}
	var d api.Dataset
	for i := range want {
		d.Series = append(d.Series, series(want[i*7%len(want)], point(int64(i*7%len(want)), 1)))
	}
	s := loaded(t, d)
	for i, ls := range want {
		if got := s.Labels(i); !slices.Equal(got, ls) {
			t.Errorf("Labels(%d) = %q; want %q", i, got, ls)
		}
		if p, ok := s.At(i, int64(i)); !ok || p.T != int64(i) {
			t.Errorf("At(%d) = %v, %v", i, p, ok)
		}
		if list := s.Window(i, -1, 100); len(list) != 1 || list[0].T != int64(i) {
			t.Errorf("Window(%d) = %v", i, list)
		}
		if x := s.Data().Series[i]; !slices.Equal(x.Labels, ls) || len(x.Points) != 1 || x.Points[0].T != int64(i) {
			t.Errorf("Data: series %d is %+v", i, x)
		}
	}
}

// P19.2: a dataset without series, and a nil *Store, which answers as its store does: At, Window and all others.
func TestNilStore(t *testing.T) {
	for _, s := range []*store.Store{nil, loaded(t, api.Dataset{})} {
		checkSeries(t, s, nil)
		checkTimes(t, s, nil)
		if d := s.Data(); s.Len() != 0 || len(d.Series) != 0 {
			t.Errorf("%d series, %+v", s.Len(), d)
		}
		for _, m := range append(wrongMatchers(), match("a", 1, "1"), match("a", 1, ""), match("a", 3, ".*")) {
			checkAsked(t, s, nil, []api.Matcher{m}, "a")
		}
		checkAsked(t, s, nil, nil, "")
		checkAsked(t, s, nil, []api.Matcher{match("a", 2, "1"), match("b", 3, "(")}, "__name__")
	}
}

// P19.2: datasets by chance, asked by number and by time.
func TestSeriesByChance(t *testing.T) {
	c := newChance(2)
	for range 400 {
		d := c.dataset(6, 9)
		s, w := loaded(t, d), wordsLoad(d)
		if c.dice.IntN(2) == 0 {
			checkSeries(t, s, w)
		}
		checkTimes(t, s, w)
		checkSeries(t, s, w)
	}
}

// P19.2: the greatest datasets: a series of MaxSamples points, and MaxSeries series.
func TestGreatest(t *testing.T) {
	c := newChance(3)
	long := run(api.MaxSamples)
	for k := range long {
		long[k].V, long[k].Stale = pick(c, floats()), c.dice.IntN(9) == 0
	}
	for _, d := range []api.Dataset{data(series(nil, long...)), data(append(many(999, 100), series(wide(32), run(100)...))...)} {
		s, w := loaded(t, d), wordsLoad(d)
		checkSeries(t, s, w)
		for range 60 {
			i := c.dice.IntN(s.Len())
			from := c.dice.Int64N(100000000)
			checkAt(t, s, w, i, from)
			checkWindow(t, s, w, i, from, from+c.dice.Int64N(5000000))
			checkAt(t, s, w, i, from%120000)
			checkWindow(t, s, w, i, from%120000, from%150000)
		}
		for _, i := range []int{0, s.Len() - 1, s.Len()} {
			for _, at := range timesNear(w.number(i).Points) {
				checkAt(t, s, w, i, at)
			}
			checkWindow(t, s, w, i, math.MinInt64, math.MaxInt64)
		}
	}
}
