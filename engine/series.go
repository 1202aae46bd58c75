package engine

import (
	"slices"
	"strings"

	"weir/api"
	"weir/num"
	"weir/span"
)

// A choice is the series that a selector chooses, which are the same at all times: their numbers in the store and their labels.
type choice struct {
	numbers []int
	sets    [][]api.Label
}

// choose: a selector's choice. It is made when it is first asked for: a selector that the toll doesn't come to costs no work.
func (r *run) choose(s *api.Selector) *choice {
	if c := r.chosen[s]; c != nil {
		return c
	}
	ms := s.Matchers
	if s.Name != "" {
		ms = slices.Insert(slices.Clone(ms), 0, api.Matcher{Name: api.MetricName, Op: api.MatchEq, Value: s.Name})
	}
	numbers, e := r.store.Select(ms)
	must(e)
	c := &choice{numbers: numbers}
	for _, i := range numbers {
		c.sets = append(c.sets, r.store.Labels(i))
	}
	r.chosen[s] = c
	return c
}

// placed: where a When puts the time t.
func (r *run) placed(w api.When, t int64) int64 {
	switch w.At {
	case "":
	case "start":
		t = r.start
	case "end":
		t = r.end
	default:
		v, _ := num.Read(w.At) // check has seen that it is a time
		t, _ = span.Millis(v)
	}
	if later, ok := strings.CutPrefix(w.Offset, "-"); ok {
		return t + milliseconds(later)
	}
	return t - milliseconds(w.Offset)
}

// A sight is a series with the sample of it that counts.
type sight struct {
	set    []api.Label
	sample api.Sample
}

// seen: what a selector sees at the time t.
func (r *run) seen(s *api.Selector, t int64) []sight {
	c := r.choose(s)
	r.pay(len(c.numbers))
	at := r.placed(s.When, t)
	var all []sight
	for k, i := range c.numbers {
		if p, ok := r.store.At(i, at); ok {
			all = append(all, sight{c.sets[k], p})
		}
	}
	r.pay(len(all))
	return all
}

func (r *run) selected(s *api.Selector, t int64) vector {
	var v vector
	for _, x := range r.seen(s, t) {
		v = append(v, api.Elem{Labels: x.set, V: x.sample.V})
	}
	return v
}

func (r *run) windows(x *api.Range, t int64) matrix {
	c := r.choose(x.Of)
	r.pay(len(c.numbers))
	to := r.placed(x.Of.When, t)
	m := matrix{from: to - milliseconds(x.Dur), to: to}
	for k, i := range c.numbers {
		points := r.store.Window(i, m.from, m.to)
		r.pay(len(points))
		if len(points) > 0 {
			m.series = append(m.series, api.Series{Labels: c.sets[k], Points: points})
		}
	}
	return m
}
