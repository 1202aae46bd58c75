package store_test

import (
	"math"
	"math/big"
	"regexp"
	"slices"
	"sort"
	"testing"
	"unicode/utf8"

	"weir/api"
	"weir/labels"
	"weir/store"
)

// The chapter's words, written down a second time and in another way, to hold the package against: all goes through all series and all points.

var (
	labelName  = regexp.MustCompile(`\A[a-zA-Z_][0-9a-zA-Z_]*\z`)
	metricName = regexp.MustCompile(`\A[a-zA-Z_:][0-9a-zA-Z_:]*\z`)
)

// set: labels from names and values in turns.
func set(texts ...string) []api.Label {
	var ls []api.Label
	for two := range slices.Chunk(texts, 2) {
		ls = append(ls, api.Label{Name: two[0], Value: two[1]})
	}
	return ls
}

func match(name string, op int, value string) api.Matcher {
	return api.Matcher{Name: name, Op: op, Value: value}
}

func data(list ...api.Series) api.Dataset { return api.Dataset{Series: list} }

func series(ls []api.Label, points ...api.Sample) api.Series {
	return api.Series{Labels: ls, Points: points}
}

func point(t int64, v float64) api.Sample { return api.Sample{T: t, V: v} }

func stale(t int64, v float64) api.Sample { return api.Sample{T: t, V: v, Stale: true} }

func wordsSet(ls []api.Label) bool {
	for i, l := range ls {
		if !labelName.MatchString(l.Name) || l.Value == "" || !utf8.ValidString(l.Value) || i > 0 && l.Name <= ls[i-1].Name {
			return false
		}
	}
	return len(ls) <= 32
}

// wordsFault: which of the six rules series number i breaks, each asked by itself, and of them the first one's error.
func wordsFault(d api.Dataset, i int) api.Errno {
	s := d.Series[i]
	broken := map[api.Errno]bool{api.ErrSeries: !wordsSet(s.Labels)}
	for _, l := range s.Labels {
		broken[api.ErrLong] = broken[api.ErrLong] || len(l.Name) > 128 || len(l.Value) > 512
		broken[api.ErrName] = broken[api.ErrName] || l.Name == "__name__" && !metricName.MatchString(l.Value)
	}
	count := len(s.Points)
	for _, other := range d.Series[:i] {
		broken[api.ErrDup] = broken[api.ErrDup] || slices.Equal(other.Labels, s.Labels)
		count += len(other.Points)
	}
	for k, p := range s.Points {
		far := p.T < -62167219200000 || p.T > 253402300799999
		broken[api.ErrPoint] = broken[api.ErrPoint] || far || k > 0 && s.Points[k-1].T >= p.T
	}
	broken[api.ErrSize] = count > 100000
	for _, e := range []api.Errno{190, 1, 191, 6, 192, 193} {
		if broken[e] {
			return e
		}
	}
	return 0
}

func wordsCheck(d api.Dataset) (int, api.Errno) {
	if len(d.Series) > 1000 {
		return 1000, 193
	}
	for i := range d.Series {
		if e := wordsFault(d, i); e != 0 {
			return i, e
		}
	}
	return 0, 0
}

// wordsLess: does a stand ahead of b in the canonical order?
func wordsLess(a, b []api.Label) bool {
	for i := range a {
		switch {
		case i == len(b):
			return false
		case a[i].Name != b[i].Name:
			return a[i].Name < b[i].Name
		case a[i].Value != b[i].Value:
			return a[i].Value < b[i].Value
		}
	}
	return len(a) < len(b)
}

// words: a store as the chapter says it: the series in canonical order.
type words []api.Series

func wordsLoad(d api.Dataset) words {
	var w words
	for _, s := range d.Series {
		s.Points = slices.Clone(s.Points)
		for k := range s.Points {
			if s.Points[k].Stale {
				s.Points[k].V = 0
			}
		}
		w = append(w, s)
	}
	sort.SliceStable(w, func(i, j int) bool { return wordsLess(w[i].Labels, w[j].Labels) })
	return w
}

// number: series number i, or one that is empty.
func (w words) number(i int) api.Series {
	if i < 0 || i >= len(w) {
		return api.Series{}
	}
	return w[i]
}

func wordsHolds(ms []api.Matcher, ls []api.Label) bool {
	for _, m := range ms {
		value := ""
		for _, l := range slices.Backward(ls) { // of a name that stands twice the first one counts
			if l.Name == m.Name {
				value = l.Value
			}
		}
		same := value == m.Value
		if m.Op == 3 || m.Op == 4 {
			same = regexp.MustCompile(`\A(?:` + m.Value + `)\z`).MatchString(value)
		}
		if same != (m.Op%2 == 1) {
			return false
		}
	}
	return true
}

// refused: the error of a list of matchers.
func refused(ms []api.Matcher) api.Errno {
	_, _, e := labels.Compile(ms)
	return e
}

func (w words) choose(ms []api.Matcher) ([]int, api.Errno) {
	if e := refused(ms); e != 0 {
		return nil, e
	}
	var list []int
	for i, s := range w {
		if wordsHolds(ms, s.Labels) {
			list = append(list, i)
		}
	}
	return list, 0
}

// above: is a above b less Lookback?
func above(a, b int64) bool {
	from := new(big.Int).Sub(big.NewInt(b), big.NewInt(300000))
	return big.NewInt(a).Cmp(from) > 0
}

func (w words) at(i int, t int64) (api.Sample, bool) {
	var last api.Sample
	found := false
	for _, p := range w.number(i).Points {
		if p.T <= t {
			last, found = p, true
		}
	}
	if !found || !above(last.T, t) || last.Stale {
		return api.Sample{}, false
	}
	return last, true
}

func (w words) window(i int, from, to int64) []api.Sample {
	var list []api.Sample
	for _, p := range w.number(i).Points {
		if from < p.T && p.T <= to && !p.Stale {
			list = append(list, p)
		}
	}
	return list
}

// told: of the labels of all series that matchers choose what is wanted of each, sorted, each once.
func (w words) told(ms []api.Matcher, wanted func(l api.Label) (string, bool)) ([]string, api.Errno) {
	list, e := w.choose(ms)
	all := map[string]bool{}
	for _, i := range list {
		for _, l := range w[i].Labels {
			if text, ok := wanted(l); ok {
				all[text] = true
			}
		}
	}
	var texts []string
	for text := range all {
		texts = append(texts, text)
	}
	sort.Strings(texts)
	return texts, e
}

func (w words) names(ms []api.Matcher) ([]string, api.Errno) {
	return w.told(ms, func(l api.Label) (string, bool) { return l.Name, true })
}

func (w words) values(ms []api.Matcher, name string) ([]string, api.Errno) {
	return w.told(ms, func(l api.Label) (string, bool) { return l.Value, l.Name == name })
}

// like: are two samples alike?
func like(a, b api.Sample) bool {
	same := math.Float64bits(a.V) == math.Float64bits(b.V) || math.IsNaN(a.V) && math.IsNaN(b.V)
	return a.T == b.T && a.Stale == b.Stale && same
}

func likeSeries(a, b api.Series) bool {
	return slices.Equal(a.Labels, b.Labels) && slices.EqualFunc(a.Points, b.Points, like)
}

func checkCheck(t *testing.T, d api.Dataset) {
	t.Helper()
	want, wantE := wordsCheck(d)
	if i, e := store.Check(d); i != want || e != wantE {
		t.Fatalf("Check of %s = %d, %d; want %d, %d", brief(d), i, e, want, wantE)
	}
	if s, i, e := store.Load(d); i != want || e != wantE || (s == nil) != (wantE != 0) {
		t.Fatalf("Load of %s = %v, %d, %d; want %d, %d", brief(d), s != nil, i, e, want, wantE)
	}
}

// loaded: the store of a dataset that has no fault.
func loaded(t *testing.T, d api.Dataset) *store.Store {
	t.Helper()
	s, i, e := store.Load(d)
	if s == nil || i != 0 || e != 0 {
		t.Fatalf("Load of %s: %d, %d", brief(d), i, e)
	}
	return s
}

// checkSeries: what a store tells of its series by number, and of numbers that there are none of.
func checkSeries(t *testing.T, s *store.Store, w words) {
	t.Helper()
	if s.Len() != len(w) {
		t.Fatalf("Len of %s is %d", brief(data(w...)), s.Len())
	}
	for _, i := range append(beyond(len(w)), numbers(len(w))...) {
		if got := s.Labels(i); !slices.Equal(got, w.number(i).Labels) {
			t.Fatalf("Labels(%d) of %s: %q", i, brief(data(w...)), got)
		}
	}
	if got := s.Data(); !slices.EqualFunc(got.Series, w, likeSeries) {
		t.Fatalf("Data of %s: %+v", brief(data(w...)), got)
	}
}

func checkAt(t *testing.T, s *store.Store, w words, i int, at int64) {
	t.Helper()
	got, ok := s.At(i, at)
	if want, wantOk := w.at(i, at); !like(got, want) || ok != wantOk {
		t.Fatalf("At(%d, %d) of %s = %v, %v; want %v, %v", i, at, brief(data(w...)), got, ok, want, wantOk)
	}
}

func checkWindow(t *testing.T, s *store.Store, w words, i int, from, to int64) {
	t.Helper()
	got := s.Window(i, from, to)
	if want := w.window(i, from, to); !slices.EqualFunc(got, want, like) {
		t.Fatalf("Window(%d, %d, %d) of %s = %v; want %v", i, from, to, brief(data(w...)), got, want)
	}
}

// checkTimes: At and Window of each series at all times near its points, and at the least and the greatest ones.
func checkTimes(t *testing.T, s *store.Store, w words) {
	t.Helper()
	for _, i := range append(beyond(len(w)), numbers(len(w))...) {
		times := timesNear(w.number(i).Points)
		for k, at := range times {
			checkAt(t, s, w, i, at)
			for step := 1; step < len(times); step += 1 + len(times)/12 {
				checkWindow(t, s, w, i, at, times[(k+step)%len(times)])
			}
			checkWindow(t, s, w, i, at, at)
		}
	}
}

// checkAsked: what a store answers to matchers, and to a name beside them.
func checkAsked(t *testing.T, s *store.Store, w words, ms []api.Matcher, name string) {
	t.Helper()
	numbers, e := s.Select(ms)
	if want, wantE := w.choose(ms); !slices.Equal(numbers, want) || e != wantE {
		t.Fatalf("Select(%+v) of %s = %v, %d; want %v, %d", ms, brief(data(w...)), numbers, e, want, wantE)
	}
	texts, e := s.Names(ms)
	if want, wantE := w.names(ms); !slices.Equal(texts, want) || e != wantE {
		t.Fatalf("Names(%+v) of %s = %q, %d; want %q, %d", ms, brief(data(w...)), texts, e, want, wantE)
	}
	texts, e = s.Values(ms, name)
	if want, wantE := w.values(ms, name); !slices.Equal(texts, want) || e != wantE {
		t.Fatalf("Values(%+v, %q) of %s = %q, %d; want %q, %d", ms, name, brief(data(w...)), texts, e, want, wantE)
	}
}
