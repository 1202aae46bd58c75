package store_test

import (
	"math"
	"slices"
	"testing"

	"weir/api"
	"weir/store"
)

// sameSeries: are two series the same, to the bits of their values?
func sameSeries(a, b api.Series) bool {
	return slices.Equal(a.Labels, b.Labels) && slices.EqualFunc(a.Points, b.Points, func(p, q api.Sample) bool {
		return p.T == q.T && p.Stale == q.Stale && math.Float64bits(p.V) == math.Float64bits(q.V)
	})
}

func wordsRestrict(d api.Dataset, ms []api.Matcher) (api.Dataset, api.Errno) {
	if e := refused(ms); e != 0 {
		return api.Dataset{}, e
	}
	var kept api.Dataset
	for _, s := range d.Series {
		if wordsHolds(ms, s.Labels) {
			kept.Series = append(kept.Series, s)
		}
	}
	return kept, 0
}

func checkRestrict(t *testing.T, d api.Dataset, ms []api.Matcher) {
	t.Helper()
	got, e := store.Restrict(d, ms)
	want, wantE := wordsRestrict(d, ms)
	if e != wantE || !slices.EqualFunc(got.Series, want.Series, sameSeries) {
		t.Fatalf("Restrict(%s, %+v) = %s, %d; want %s, %d", brief(d), ms, brief(got), e, brief(want), wantE)
	}
	if _, fault := store.Check(d); fault != 0 || e != 0 {
		return
	}
	if i, fault := store.Check(got); i != 0 || fault != 0 {
		t.Fatalf("Restrict(%s, %+v) isn't well-formed: %d, %d", brief(d), ms, i, fault)
	}
}

// P19.4: the dataset's order is kept, and values of stale points are too.
func TestRestrictExamples(t *testing.T) {
	d, e := store.Restrict(example(), []api.Matcher{match("job", 2, "a")})
	if e != 0 || len(d.Series) != 1 || !sameSeries(d.Series[0], example().Series[0]) || d.Series[0].Points[1].V != 5 {
		t.Errorf("%+v, %d", d, e)
	}
	for _, ms := range [][]api.Matcher{nil, {}, {match("__name__", 1, "up")}, {match("job", 3, ".*")}} {
		if d, e = store.Restrict(example(), ms); e != 0 || !slices.EqualFunc(d.Series, example().Series, sameSeries) {
			t.Errorf("%+v: %+v, %d", ms, d, e)
		}
	}
	if d, e = store.Restrict(example(), []api.Matcher{match("zone", 2, "")}); e != 0 || len(d.Series) != 0 {
		t.Errorf("%+v, %d", d, e)
	}
	for _, m := range wrongMatchers() {
		for _, ms := range [][]api.Matcher{{m}, {match("job", 1, "a"), m}, {m, match("a", 9, "")}, {match("job", 1, "none"), m}} {
			d, e := store.Restrict(example(), ms)
			if e != refused(ms) || e == 0 || len(d.Series) != 0 {
				t.Errorf("%+v: %+v, %d", ms, d, e)
			}
			if d, f := store.Restrict(api.Dataset{}, ms); f != e || len(d.Series) != 0 {
				t.Errorf("%+v, of no series: %+v, %d", ms, d, f)
			}
		}
	}
}

// P19.4: datasets that aren't well-formed: labels that are no set, of which a matcher asks the first of a name, too many series, too many points, the same set twice, times that are none.
func TestRestrictOfAny(t *testing.T) {
	var d api.Dataset
	for _, ls := range wrongSets() {
		d.Series = append(d.Series, series(ls, point(math.MaxInt64, 1), stale(0, math.NaN()), point(0, 2)))
	}
	d.Series = append(d.Series, d.Series...)
	d.Series = append(d.Series, series(set("a", "2", "a", "1")), series(wide(40)), series(set("a", "", "a", "1")), series(set("__name__", "a b")))
	for _, m := range []api.Matcher{match("a", 1, "1"), match("a", 2, "1"), match("a", 1, "2"), match("a", 1, ""), match("a", 2, ""), match("b", 1, "1"), match("a039", 1, "x"), match("__name__", 3, ".* .*"), match("a", 3, "1|2")} {
		checkRestrict(t, d, []api.Matcher{m})
		checkRestrict(t, d, []api.Matcher{m, match("b", 1, "")})
	}
	checkRestrict(t, d, nil)
	great := data(append(many(1500, 0), series(nil, run(150000)...))...)
	checkRestrict(t, great, nil)
	checkRestrict(t, great, []api.Matcher{match("id", 3, "1.*|")})
	half, e := store.Restrict(great, []api.Matcher{match("id", 3, "..?.?")})
	if i, fault := store.Check(half); e != 0 || i != 0 || fault != 0 || len(half.Series) != 1000 {
		t.Errorf("%d series, %d, %d, %d", len(half.Series), e, i, fault)
	}
}

// P19.4: datasets by chance, with slips and without.
func TestRestrictByChance(t *testing.T) {
	c := newChance(5)
	for i := range 4000 {
		d := c.dataset(8, 4)
		if i%2 == 0 {
			d = c.spoilt(d)
		}
		checkRestrict(t, d, c.matchers(3, true))
	}
}

// checkHidden: what the store of the restricted dataset answers is what the store of the whole answers with the matchers added.
func checkHidden(t *testing.T, d api.Dataset, ms, more []api.Matcher, name string) int {
	t.Helper()
	both := slices.Concat(ms, more)
	part, e := store.Restrict(d, ms)
	if e != 0 {
		t.Fatal(e)
	}
	s, whole := loaded(t, part), loaded(t, d)
	few, e := s.Select(more)
	all, f := whole.Select(both)
	if e != f || len(few) != len(all) {
		t.Fatalf("%s: %+v and %+v: %v, %d, and of the whole %v, %d", brief(d), ms, more, few, e, all, f)
	}
	for k, i := range few {
		checkSameSeries(t, s, i, whole, all[k])
	}
	texts, e := s.Names(more)
	if want, f := whole.Names(both); e != f || !slices.Equal(texts, want) {
		t.Fatalf("%s: %+v and %+v: Names %q, %d; want %q, %d", brief(d), ms, more, texts, e, want, f)
	}
	texts, e = s.Values(more, name)
	if want, f := whole.Values(both, name); e != f || !slices.Equal(texts, want) {
		t.Fatalf("%s: %+v and %+v: Values %q, %d; want %q, %d", brief(d), ms, more, texts, e, want, f)
	}
	return len(few)
}

// checkSameSeries: does a series of a store answer what one of another does?
func checkSameSeries(t *testing.T, a *store.Store, i int, b *store.Store, k int) {
	t.Helper()
	if !slices.Equal(a.Labels(i), b.Labels(k)) {
		t.Fatalf("%q, and %q", a.Labels(i), b.Labels(k))
	}
	times := timesNear(b.Data().Series[k].Points)
	for n, at := range times {
		p, ok := a.At(i, at)
		if q, also := b.At(k, at); !like(p, q) || ok != also {
			t.Fatalf("At %d: %v, %v, and %v, %v", at, p, ok, q, also)
		}
		to := times[(n*5+3)%len(times)]
		if x, y := a.Window(i, at, to), b.Window(k, at, to); !slices.EqualFunc(x, y, like) {
			t.Fatalf("Window %d, %d: %v, and %v", at, to, x, y)
		}
	}
}

// P19.5: what is not chosen doesn't show; matchers that are refused are so either way.
func TestHiddenDoesNotShow(t *testing.T) {
	for _, m := range []api.Matcher{match("job", 1, "a"), match("job", 2, "a"), match("env", 1, ""), match("env", 3, "x|y"), match("__name__", 4, "up"), match("job", 1, "none")} {
		for _, more := range []api.Matcher{match("job", 3, "a|b"), match("job", 2, "b"), match("env", 4, "y"), match("__name__", 1, ""), match("zone", 1, "")} {
			checkHidden(t, shop(), []api.Matcher{m}, []api.Matcher{more}, "job")
			checkHidden(t, shop(), nil, []api.Matcher{m, more}, "env")
			checkHidden(t, shop(), []api.Matcher{m, more}, nil, "env")
		}
	}
	c, shown := newChance(6), 0
	for range 600 {
		shown += checkHidden(t, c.dataset(8, 5), c.matchers(2, false), c.matchers(2, true), pick(c, names()))
	}
	if shown < 300 {
		t.Errorf("%d series were shown", shown)
	}
}

// sameStores: do two stores answer the same, by number and by matchers?
func sameStores(t *testing.T, a, b *store.Store, lists [][]api.Matcher) {
	t.Helper()
	if a.Len() != b.Len() || !slices.EqualFunc(a.Data().Series, b.Data().Series, likeSeries) {
		t.Fatalf("%s, and %s", brief(a.Data()), brief(b.Data()))
	}
	for i := range a.Len() {
		checkSameSeries(t, a, i, b, i)
	}
	for _, ms := range lists {
		few, e := a.Select(ms)
		if also, f := b.Select(ms); e != f || !slices.Equal(few, also) {
			t.Fatalf("Select(%+v): %v, %d, and %v, %d", ms, few, e, also, f)
		}
		texts, e := a.Names(ms)
		if also, f := b.Names(ms); e != f || !slices.Equal(texts, also) {
			t.Fatalf("Names(%+v): %q, %d, and %q, %d", ms, texts, e, also, f)
		}
		for _, name := range goodNames() {
			texts, e = a.Values(ms, name)
			if also, f := b.Values(ms, name); e != f || !slices.Equal(texts, also) {
				t.Fatalf("Values(%+v, %q): %q, %d, and %q, %d", ms, name, texts, e, also, f)
			}
		}
	}
}

// P19.6: a dataset's series in several orders: turned round, all orders of a few, shuffled.
func TestOrderDoesNotMatter(t *testing.T) {
	c := newChance(7)
	for range 120 {
		d := c.dataset(8, 5)
		lists := [][]api.Matcher{nil, c.matchers(2, true), c.matchers(2, true), c.matchers(2, false)}
		s := loaded(t, d)
		turned := data(slices.Clone(d.Series)...)
		slices.Reverse(turned.Series)
		sameStores(t, s, loaded(t, turned), lists)
		sameStores(t, s, loaded(t, s.Data()), lists)
		for range 3 {
			mixed := data(slices.Clone(d.Series)...)
			c.dice.Shuffle(len(mixed.Series), func(i, k int) {
				mixed.Series[i], mixed.Series[k] = mixed.Series[k], mixed.Series[i]
			})
			sameStores(t, s, loaded(t, mixed), lists)
		}
	}
	few := shop().Series[:4]
	s := loaded(t, data(few...))
	for _, order := range orders(numbers(4)) {
		var d api.Dataset
		for _, i := range order {
			d.Series = append(d.Series, few[i])
		}
		sameStores(t, s, loaded(t, d), [][]api.Matcher{nil, {match("job", 1, "a")}})
	}
}

// orders: all orders of a list.
func orders(list []int) [][]int {
	if len(list) == 0 {
		return [][]int{nil}
	}
	var all [][]int
	for i, first := range list {
		rest := slices.Delete(slices.Clone(list), i, i+1)
		for _, order := range orders(rest) {
			all = append(all, append([]int{first}, order...))
		}
	}
	return all
}
