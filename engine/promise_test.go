package engine_test

import (
	"slices"
	"testing"

	"weir/api"
	"weir/engine"
	"weir/parse"
	"weir/store"
	"weir/tree"
)

// stepwise: what Instant tells at each of the steps, put together as Range does; the first error, and the tolls' sum up to there.
func stepwise(s *store.Store, query string, start, end, step int64) (string, int, api.Errno) {
	var times []int64
	var vectors [][]api.Elem
	all := 0
	for t := start; t <= end; t += step {
		a, e := engine.Instant(s, query, t)
		if e != 0 {
			return "", all, e
		}
		toll, _ := engine.Toll(s, query, t)
		all += toll
		if a.Type == api.ValScalar {
			a.Vector = []api.Elem{{V: a.V}}
		}
		times, vectors = append(times, t), append(vectors, a.Vector)
	}
	return told(api.Result{Type: api.ValMatrix, Matrix: strung(times, vectors)}, 0), all, 0
}

// P24.2: what Range tells at a step is what Instant tells at that time; and it costs as much as all of these together.
func TestRangeIsItsSteps(t *testing.T) {
	c := newChance(3)
	full, refused := 0, 0
	for range 1500 {
		s := load(c.dataset(12))
		query := c.vector(4)
		if c.one(4) {
			query = c.scalar(4)
		}
		start := int64(c.dice.IntN(600000) - 200000)
		end, step := start+int64(c.dice.IntN(400000)), pick[int64](c, 999, 15000, 30000, 60000, 61001, 400000)
		want, toll, wantE := stepwise(s, query, start, end, step)
		if toll > api.MaxToll {
			wantE = api.ErrToll
		}
		if wantE != 0 {
			want = told(api.Result{}, wantE)
			refused++
		}
		got := told(engine.Range(s, query, start, end, step))
		if got != want {
			t.Errorf("%.600q from %d to %d by %d: %s; step by step %s", query, start, end, step, short(got), short(want))
		}
		if len(got) > 100 {
			full++
		}
	}
	if full < 350 || refused < 30 {
		t.Errorf("%d long answers, and %d refusals", full, refused)
	}
}

// without: the dataset without the series that no selector of the query chooses, and how many these are.
func without(d api.Dataset, query string) (api.Dataset, int) {
	x, _, e := parse.Parse(query)
	if e != 0 {
		return d, 0
	}
	var left api.Dataset
	for _, s := range d.Series {
		for _, sel := range tree.Selectors(x) {
			one := world{data: api.Dataset{Series: []api.Series{s}}}
			if len(one.chosen(api.Row{Text: sel.Name, Matchers: sel.Matchers})) > 0 {
				left.Series = append(left.Series, s)
				break
			}
		}
	}
	return left, len(d.Series) - len(left.Series)
}

// P24.3: without the series that no selector chooses answer, error and toll are as they were.
func TestOnlyWhatIsChosen(t *testing.T) {
	c := newChance(4)
	c.ends = true
	gone, full := 0, 0
	for range 2500 {
		d, query, at := c.dataset(16), c.query(4), c.instant()
		less, n := without(d, query)
		for _, twin := range []api.Dataset{less, {Series: slices.Concat(less.Series, crowd(c, d, query))}} {
			a, b := load(d), load(twin)
			want, got := instant(a, query, at), instant(b, query, at)
			if got != want {
				t.Errorf("%.600q at %d: %s; without what isn't chosen %s", query, at, short(want), short(got))
			}
			wantToll, wantE := engine.Toll(a, query, at)
			if toll, e := engine.Toll(b, query, at); toll != wantToll || e != wantE {
				t.Errorf("the toll of %.600q at %d: %d, %d; without what isn't chosen %d, %d", query, at, wantToll, wantE, toll, e)
			}
			start := int64(c.dice.IntN(300000))
			want = told(engine.Range(a, query, start, start+120000, 30000))
			if got := told(engine.Range(b, query, start, start+120000, 30000)); got != want {
				t.Errorf("%.600q from %d on: %s; without what isn't chosen %s", query, start, short(want), short(got))
			}
			if len(want) > 60 {
				full++
			}
		}
		gone += n
	}
	if gone < 2500 || full < 500 {
		t.Errorf("%d series were taken out, and %d answers are long", gone, full)
	}
}

// crowd: series that the query doesn't choose and that aren't in the dataset.
func crowd(c chance, d api.Dataset, query string) []api.Series {
	more := c.dataset(16)
	chosen, _ := without(more, query)
	return slices.DeleteFunc(more.Series, func(s api.Series) bool {
		return slices.ContainsFunc(slices.Concat(d.Series, chosen.Series), func(x api.Series) bool { return slices.Equal(x.Labels, s.Labels) })
	})
}

// later: the dataset with all samples moved in time.
func later(data api.Dataset, by int64) api.Dataset {
	var moved api.Dataset
	for _, s := range data.Series {
		points := slices.Clone(s.Points)
		for i := range points {
			points[i].T += by
		}
		moved.Series = append(moved.Series, api.Series{Labels: s.Labels, Points: points})
	}
	return moved
}

// P24.4: a dataset whose samples all lie later answers, asked as much later, the same values.
func TestTimeMovesAlong(t *testing.T) {
	c := newChance(5)
	c.moving = true
	full := 0
	for range 4000 {
		d, query, at := c.dataset(12), c.query(4), int64(c.dice.IntN(900000)-100000)
		by := pick[int64](c, 1, -1, 60000, 123457, -9999999, 1700000000000, api.MinTime+2000000, api.MaxTime-700000000) + int64(c.dice.IntN(100000))
		a, e := engine.Instant(load(d), query, at)
		b, laterE := engine.Instant(load(later(d, by)), query, at+by)
		if a.Type != api.ValMatrix {
			a.T += by
		}
		if e != 0 {
			a = api.Result{}
		}
		for _, s := range a.Matrix {
			for i := range s.Points {
				s.Points[i].T += by
			}
		}
		got, want := told(b, laterE), told(a, e)
		if got != want {
			t.Errorf("%.600q at %d: %s; later by %d: %s", query, at, short(want), by, short(got))
		}
		if len(want) > 60 {
			full++
		}
	}
	if full < 500 {
		t.Errorf("%d answers are long", full)
	}
}
