package engine

import (
	"slices"

	"weir/api"
	"weir/labels"
)

// repeated: a subquery's answer at the time t.
func (r *run) repeated(x *api.Subquery, t int64) matrix {
	to := r.placed(x.When, t)
	m := matrix{from: to - milliseconds(x.Dur), to: to}
	step := int64(api.DefaultStep)
	if x.Step != "" {
		step = milliseconds(x.Step)
	}
	all := newGrown()
	for at := multiple(step, m.from); at <= to; at += step {
		all.add(at, r.answer(x.X, at).(vector))
	}
	m.series = all.sorted()
	return m
}

// multiple: the least multiple of the step above a time, which may be below 0.
func multiple(step, above int64) int64 {
	left := above % step
	if left < 0 {
		left += step
	}
	return above - left + step
}

// A grown is the series that vectors make, one at a time.
type grown struct {
	series []api.Series
	places map[identity]int
}

// An identity is the same for the same label sets alone.
type identity struct{ name, others string }

func newGrown() *grown { return &grown{places: map[identity]int{}} }

// add puts the elements of the time t to the series.
func (g *grown) add(t int64, v []api.Elem) {
	for _, x := range v {
		i := g.place(x.Labels)
		g.series[i].Points = append(g.series[i].Points, api.Sample{T: t, V: x.V})
	}
}

// place: where the series of a label set stands.
func (g *grown) place(ls []api.Label) int {
	id := identity{labels.Get(ls, api.MetricName), labels.Key(ls, nil, true)}
	i, ok := g.places[id]
	if !ok {
		i = len(g.series)
		g.places[id] = i
		g.series = append(g.series, api.Series{Labels: ls})
	}
	return i
}

// sorted: the series in canonical order.
func (g *grown) sorted() []api.Series {
	slices.SortFunc(g.series, func(a, b api.Series) int { return labels.Compare(a.Labels, b.Labels) })
	return g.series
}
