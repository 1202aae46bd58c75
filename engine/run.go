package engine

import (
	"slices"

	"weir/api"
	"weir/check"
	"weir/gather"
	"weir/num"
	"weir/pair"
	"weir/parse"
	"weir/span"
	"weir/store"
)

// A run is one evaluation of a query: its base is start and end, and toll is what it has cost so far.
type run struct {
	store      *store.Store
	root       api.Expr
	kind       int
	start, end int64
	toll       int
	chosen     map[*api.Selector]*choice
}

func begin(s *store.Store, query string) *run {
	t, _, e := parse.Parse(query)
	must(e)
	kind, e := check.Check(t)
	must(e)
	return &run{store: s, root: t.Root, kind: kind, chosen: map[*api.Selector]*choice{}}
}

// once: the root's answer at one time.
func (r *run) once(at int64) value {
	if !isTime(at) {
		must(api.ErrTime)
	}
	r.start, r.end = at, at
	return r.answer(r.root, at)
}

// steps: the series that the root's answers at the steps make.
func (r *run) steps(start, end, step int64) []api.Series {
	if r.kind != api.ValScalar && r.kind != api.ValVector {
		must(api.ErrType)
	}
	n, e := Steps(start, end, step)
	must(e)
	r.start, r.end = start, end
	all := newGrown()
	for k := range int64(n) {
		t := start + k*step
		all.add(t, elements(r.answer(r.root, t)))
	}
	return all.sorted()
}

// elements: a vector's; a scalar counts as a vector of one element without labels.
func elements(v value) []api.Elem {
	if x, ok := v.(scalar); ok {
		return []api.Elem{{V: float64(x)}}
	}
	return v.(vector)
}

// told: the root's answer as a query's. What it is made of is in the run's own memory, and the run ends with it.
func (r *run) told(v value, at int64) api.Result {
	a := api.Result{Type: v.kind(), T: at}
	switch v := v.(type) {
	case scalar:
		a.V = float64(v)
	case text:
		a.Text = string(v)
	case vector:
		if !sorts(r.root) {
			slices.SortFunc(v, bySet)
		}
		a.Vector = v
	case matrix:
		a.T, a.Matrix = 0, v.series
	}
	return a
}

// sorts: is this node's vector in an order of its own?
func sorts(x api.Expr) bool {
	c, ok := x.(*api.Call)
	return ok && (c.Name == "sort" || c.Name == "sort_desc")
}

// pay adds to the toll.
func (r *run) pay(n int) {
	r.toll += n
	if r.toll > api.MaxToll {
		must(api.ErrToll)
	}
}

// answer: a node's answer at the time t.
func (r *run) answer(x api.Expr, t int64) value {
	r.pay(1)
	switch x := x.(type) {
	case *api.Number:
		return number(x.Lexeme)
	case *api.Text:
		return text(x.Value)
	case *api.Selector:
		return r.selected(x, t)
	case *api.Range:
		return r.windows(x, t)
	case *api.Subquery:
		return r.repeated(x, t)
	case *api.Unary:
		return r.signed(x, t)
	case *api.Binary:
		return r.joined(x, t)
	case *api.Aggregate:
		return r.gathered(x, t)
	}
	return r.called(x.(*api.Call), t)
}

// number: what a lexeme stands for, which is a number's or a duration's.
func number(lexeme string) scalar {
	if v, e := num.Read(lexeme); e == api.OK {
		return scalar(v)
	}
	return seconds(milliseconds(lexeme))
}

// milliseconds: those of a duration's lexeme; of none 0.
func milliseconds(lexeme string) int64 {
	ms, _ := span.Parse(lexeme) // a tree's durations can all be read
	return ms
}

func seconds(t int64) scalar { return scalar(float64(t) / 1000) }

func (r *run) signed(x *api.Unary, t int64) value {
	v := r.answer(x.X, t)
	if x.Op == "+" {
		return v
	}
	if v, ok := v.(scalar); ok {
		return -v
	}
	return made(pair.Negate(v.(vector)))
}

func (r *run) joined(x *api.Binary, t int64) value {
	left := r.answer(x.X, t)
	right := r.answer(x.Y, t)
	a, aIs := left.(scalar)
	b, bIs := right.(scalar)
	switch {
	case aIs && bIs:
		v, e := pair.Scalars(x.Op, float64(a), float64(b))
		must(e)
		return scalar(v)
	case aIs:
		return made(pair.Mixed(x.Op, right.(vector), float64(a), true, x.Bool))
	case bIs:
		return made(pair.Mixed(x.Op, left.(vector), float64(b), false, x.Bool))
	}
	return made(pair.Vectors(x.Op, left.(vector), right.(vector), x.Matching, x.Bool))
}

func (r *run) gathered(x *api.Aggregate, t int64) value {
	g := api.Gathering{Op: x.Op, Without: x.Without, Labels: x.Labels}
	if x.Param != nil {
		a := argument(r.answer(x.Param, t))
		g.Param, g.Text = a.V, a.Text
	}
	return made(gather.Gather(g, r.answer(x.X, t).(vector)))
}
