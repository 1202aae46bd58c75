package engine_test

import (
	"fmt"
	"math/big"
	"regexp"
	"slices"
	"strings"
	"testing"

	"weir/api"
	"weir/check"
	"weir/engine"
	"weir/fns"
	"weir/gather"
	"weir/num"
	"weir/over"
	"weir/pair"
	"weir/parse"
	"weir/span"
	"weir/store"
	"weir/tree"
)

// What chapter 24 says, written a second time and in another way, to hold the package against: over a dataset as it is, and over a tree's rows. What it leaves to layers 2, 3, 13, 14 and 20 to 23 is left to them here too.

// A world is what a query is evaluated over, with its base and its toll so far.
type world struct {
	data       api.Dataset
	rows       []api.Row
	start, end int64
	toll       int
}

// A thing is what a node's evaluation comes to: of a matrix its windows' ends too.
type thing struct {
	api.Result
	from, to int64
	e        api.Errno
}

func refused(e api.Errno) thing { return thing{e: e} }

func scalarThing(v float64) thing { return thing{Result: api.Result{Type: api.ValScalar, V: v}} }

func vectorThing(v []api.Elem, e api.Errno) thing {
	if e != 0 {
		return refused(e)
	}
	return thing{Result: api.Result{Type: api.ValVector, Vector: v}}
}

func wordsLess(a, b []api.Label) int {
	return slices.CompareFunc(a, b, func(x, y api.Label) int {
		if x.Name != y.Name {
			return strings.Compare(x.Name, y.Name)
		}
		return strings.Compare(x.Value, y.Value)
	})
}

func keyOf(ls []api.Label) string { return fmt.Sprintf("%q", ls) }

func unnamed(ls []api.Label) []api.Label {
	return slices.DeleteFunc(slices.Clone(ls), func(l api.Label) bool { return l.Name == "__name__" })
}

// once: the vector in canonical order, or ErrDup.
func once(v []api.Elem) thing {
	seen := map[string]int{}
	for _, x := range v {
		seen[keyOf(x.Labels)]++
	}
	if len(seen) < len(v) {
		return refused(api.ErrDup)
	}
	slices.SortStableFunc(v, func(a, b api.Elem) int { return wordsLess(a.Labels, b.Labels) })
	return vectorThing(v, 0)
}

// cost adds to the toll; it tells whether it is too much.
func (w *world) cost(n int) bool {
	w.toll += n
	return w.toll > api.MaxToll
}

func (w *world) matches(m api.Matcher, ls []api.Label) bool {
	value := ""
	for _, l := range ls {
		if l.Name == m.Name {
			value = l.Value
		}
	}
	switch m.Op {
	case api.MatchEq:
		return value == m.Value
	case api.MatchNe:
		return value != m.Value
	}
	return regexp.MustCompile(`\A(?:`+m.Value+`)\z`).MatchString(value) == (m.Op == api.MatchRe)
}

// chosen: the series that a selector's row chooses, in canonical order.
func (w *world) chosen(row api.Row) []api.Series {
	ms := row.Matchers
	if row.Text != "" {
		ms = append([]api.Matcher{{Name: "__name__", Op: api.MatchEq, Value: row.Text}}, ms...)
	}
	var list []api.Series
	for _, s := range w.data.Series {
		if !slices.ContainsFunc(ms, func(m api.Matcher) bool { return !w.matches(m, s.Labels) }) {
			list = append(list, s)
		}
	}
	slices.SortFunc(list, func(a, b api.Series) int { return wordsLess(a.Labels, b.Labels) })
	return list
}

func length(dur string) int64 {
	ms, _ := span.Parse(dur)
	return ms
}

// put: where a When puts a time.
func (w *world) put(when api.When, t int64) int64 {
	if when.At == "start" {
		t = w.start
	} else if when.At == "end" {
		t = w.end
	} else if when.At != "" {
		v, _ := num.Read(when.At)
		t, _ = span.Millis(v)
	}
	if strings.HasPrefix(when.Offset, "-") {
		return t + length(when.Offset[1:])
	}
	return t - length(when.Offset)
}

// look: the sample of the series that counts at a time.
func look(s api.Series, at int64) (api.Sample, bool) {
	for _, p := range slices.Backward(s.Points) {
		if p.T <= at {
			return p, !p.Stale && p.T > at-300000
		}
	}
	return api.Sample{}, false
}

// behind: the place of the row behind a node and all that is below it.
func (w *world) behind(i int) int {
	next := i + 1
	for range w.rows[i].Kids {
		next = w.behind(next)
	}
	return next
}

// at: what node number i comes to at the time t.
func (w *world) at(i int, t int64) thing {
	if w.cost(1) {
		return refused(api.ErrToll)
	}
	row := w.rows[i]
	switch row.Kind {
	case api.NodeNumber:
		if v, e := num.Read(row.Text); e == 0 {
			return scalarThing(v)
		}
		return scalarThing(float64(length(row.Text)) / 1000)
	case api.NodeString:
		return thing{Result: api.Result{Type: api.ValString, Text: row.Text}}
	case api.NodeSelector:
		return w.selector(row, t, func(p api.Sample) float64 { return p.V })
	case api.NodeRange:
		return w.window(row, w.rows[i+1], t)
	case api.NodeSubquery:
		return w.subquery(i, t)
	}
	if row.Kind == api.NodeCall && row.Op == "timestamp" {
		return w.timestamp(i+1, t)
	}
	var kids []thing
	next := i + 1
	for range row.Kids {
		kid := w.at(next, t)
		if kid.e != 0 {
			return kid
		}
		kids, next = append(kids, kid), w.behind(next)
	}
	switch row.Kind {
	case api.NodeUnary:
		return signed(row.Op, kids[0])
	case api.NodeBinary:
		return combined(row, kids[0], kids[1])
	case api.NodeAggregate:
		return aggregated(row, kids)
	}
	return w.call(i, kids, t)
}

func (w *world) selector(row api.Row, t int64, value func(api.Sample) float64) thing {
	list, at := w.chosen(row), w.put(row.When, t)
	if w.cost(len(list)) {
		return refused(api.ErrToll)
	}
	var v []api.Elem
	for _, s := range list {
		if p, ok := look(s, at); ok {
			v = append(v, api.Elem{Labels: s.Labels, V: value(p)})
		}
	}
	if w.cost(len(v)) {
		return refused(api.ErrToll)
	}
	return vectorThing(v, 0)
}

func (w *world) window(row, of api.Row, t int64) thing {
	list, to := w.chosen(of), w.put(of.When, t)
	if w.cost(len(list)) {
		return refused(api.ErrToll)
	}
	m := thing{Result: api.Result{Type: api.ValMatrix}, from: to - length(row.Dur), to: to}
	for _, s := range list {
		var points []api.Sample
		for _, p := range s.Points {
			if m.from < p.T && p.T <= to && !p.Stale {
				points = append(points, p)
			}
		}
		if w.cost(len(points)) {
			return refused(api.ErrToll)
		}
		if len(points) > 0 {
			m.Matrix = append(m.Matrix, api.Series{Labels: s.Labels, Points: points})
		}
	}
	return m
}

// strung: the series of vectors at their times.
func strung(times []int64, vectors [][]api.Elem) []api.Series {
	all := map[string]*api.Series{}
	for i, v := range vectors {
		for _, x := range v {
			key := keyOf(x.Labels)
			if all[key] == nil {
				all[key] = &api.Series{Labels: x.Labels}
			}
			all[key].Points = append(all[key].Points, api.Sample{T: times[i], V: x.V})
		}
	}
	var list []api.Series
	for _, s := range all {
		list = append(list, *s)
	}
	slices.SortFunc(list, func(a, b api.Series) int { return wordsLess(a.Labels, b.Labels) })
	return list
}

func (w *world) subquery(i int, t int64) thing {
	row := w.rows[i]
	step := int64(60000)
	if row.Step != "" {
		step = length(row.Step)
	}
	to := w.put(row.When, t)
	m := thing{Result: api.Result{Type: api.ValMatrix}, from: to - length(row.Dur), to: to}
	// Div of big numbers rounds down where what it divides by is above 0.
	k := new(big.Int).Div(big.NewInt(m.from), big.NewInt(step)).Int64() + 1
	var times []int64
	var vectors [][]api.Elem
	for ; k*step <= to; k++ {
		v := w.at(i+1, k*step)
		if v.e != 0 {
			return v
		}
		times, vectors = append(times, k*step), append(vectors, v.Vector)
	}
	m.Matrix = strung(times, vectors)
	return m
}

func signed(op string, x thing) thing {
	if op == "+" {
		return x
	}
	if x.Type == api.ValScalar {
		return scalarThing(-x.V)
	}
	return vectorThing(pair.Negate(x.Vector))
}

func combined(row api.Row, x, y thing) thing {
	if x.Type == api.ValScalar && y.Type == api.ValScalar {
		v, e := pair.Scalars(row.Op, x.V, y.V)
		if e != 0 {
			return refused(e)
		}
		return scalarThing(v)
	}
	if x.Type == api.ValScalar {
		return vectorThing(pair.Mixed(row.Op, y.Vector, x.V, true, row.Bool))
	}
	if y.Type == api.ValScalar {
		return vectorThing(pair.Mixed(row.Op, x.Vector, y.V, false, row.Bool))
	}
	return vectorThing(pair.Vectors(row.Op, x.Vector, y.Vector, row.Matching, row.Bool))
}

func aggregated(row api.Row, kids []thing) thing {
	g := api.Gathering{Op: row.Op, Without: row.Without, Labels: row.Labels}
	if len(kids) == 2 {
		g.Param, g.Text = kids[0].V, kids[0].Text
	}
	return vectorThing(gather.Gather(g, kids[len(kids)-1].Vector))
}

func (w *world) timestamp(i int, t int64) thing {
	var v thing
	if row := w.rows[i]; row.Kind == api.NodeSelector {
		if w.cost(1) {
			return refused(api.ErrToll)
		}
		v = w.selector(row, t, func(p api.Sample) float64 { return float64(p.T) / 1000 })
	} else {
		v = w.at(i, t)
		for k := range v.Vector {
			v.Vector[k].V = float64(t) / 1000
		}
	}
	if v.e != 0 {
		return v
	}
	for k, x := range v.Vector {
		v.Vector[k].Labels = unnamed(x.Labels)
	}
	return once(v.Vector)
}

// asked: the matchers of the selector that the node's kid is, or is a range of.
func (w *world) asked(i int) []api.Matcher {
	if kind := w.rows[i+1].Kind; kind == api.NodeSelector {
		return w.rows[i+1].Matchers
	} else if kind == api.NodeRange {
		return w.rows[i+2].Matchers
	}
	return nil
}

func (w *world) call(i int, args []thing, t int64) thing {
	name := w.rows[i].Op
	switch name {
	case "time":
		return scalarThing(float64(t) / 1000)
	case "absent", "absent_over_time":
		if len(args[0].Vector)+len(args[0].Matrix) > 0 {
			return vectorThing(nil, 0)
		}
		return vectorThing(fns.Absent(w.asked(i)), 0)
	}
	if over.Known(name) {
		return overAll(name, args, t)
	}
	if sig, _ := check.Func(name); len(args) == 0 && sig.Least == 0 && sig.Result == api.ValVector {
		args = []thing{vectorThing([]api.Elem{{V: float64(t) / 1000}}, 0)}
	}
	var list []api.Value
	for _, a := range args {
		list = append(list, api.Value{Type: a.Type, V: a.V, Text: a.Text, Vector: a.Vector})
	}
	v, e := fns.Call(name, list, t)
	if e != 0 {
		return refused(e)
	}
	return thing{Result: api.Result{Type: v.Type, V: v.V, Text: v.Text, Vector: v.Vector}}
}

func overAll(name string, args []thing, t int64) thing {
	var r thing
	var numbers []float64
	for _, a := range args {
		if a.Type == api.ValMatrix {
			r = a
		} else {
			numbers = append(numbers, a.V)
		}
	}
	var v []api.Elem
	for _, s := range r.Matrix {
		x, ok := over.Call(name, api.Window{Points: s.Points, From: r.from, To: r.to, Now: t}, numbers)
		if !ok {
			continue
		}
		if name == "last_over_time" || name == "first_over_time" {
			v = append(v, api.Elem{Labels: s.Labels, V: x})
		} else {
			v = append(v, api.Elem{Labels: unnamed(s.Labels), V: x})
		}
	}
	return once(v)
}

// wordsBegin: the world of a query, and its type.
func wordsBegin(d api.Dataset, query string) (*world, int, api.Errno) {
	t, _, e := parse.Parse(query)
	if e != 0 {
		return nil, 0, e
	}
	kind, e := check.Check(t)
	if e != 0 {
		return nil, 0, e
	}
	return &world{data: d, rows: tree.Rows(t)}, kind, 0
}

func outside(t int64) bool { return t < -62167219200000 || t > 253402300799999 }

// wordsInstant: the answer, the toll and the error.
func wordsInstant(d api.Dataset, query string, at int64) (api.Result, int, api.Errno) {
	w, _, e := wordsBegin(d, query)
	if e != 0 {
		return api.Result{}, 0, e
	}
	if outside(at) {
		return api.Result{}, 0, api.ErrTime
	}
	w.start, w.end = at, at
	x := w.at(0, at)
	if x.e != 0 {
		return api.Result{}, 0, x.e
	}
	root := w.rows[0]
	if root.Kind != api.NodeCall || root.Op != "sort" && root.Op != "sort_desc" {
		slices.SortFunc(x.Vector, func(a, b api.Elem) int { return wordsLess(a.Labels, b.Labels) })
	}
	if x.Type != api.ValMatrix {
		x.T = at
	}
	return x.Result, w.toll, 0
}

func wordsSteps(start, end, step int64) (int, api.Errno) {
	if outside(start) || outside(end) {
		return 0, api.ErrTime
	}
	if step < 1 || start > end {
		return 0, api.ErrArg
	}
	n := new(big.Int).Div(big.NewInt(end-start), big.NewInt(step)).Int64()
	if n > 10999 {
		return 0, api.ErrSteps
	}
	return int(n) + 1, 0
}

func wordsRange(d api.Dataset, query string, start, end, step int64) (api.Result, api.Errno) {
	w, kind, e := wordsBegin(d, query)
	if e != 0 {
		return api.Result{}, e
	}
	if kind == api.ValString || kind == api.ValMatrix {
		return api.Result{}, api.ErrType
	}
	n, e := wordsSteps(start, end, step)
	if e != 0 {
		return api.Result{}, e
	}
	w.start, w.end = start, end
	var times []int64
	var vectors [][]api.Elem
	for k := range n {
		t := start + int64(k)*step
		x := w.at(0, t)
		if x.e != 0 {
			return api.Result{}, x.e
		}
		if x.Type == api.ValScalar {
			x.Vector = []api.Elem{{V: x.V}}
		}
		times, vectors = append(times, t), append(vectors, x.Vector)
	}
	return api.Result{Type: api.ValMatrix, Matrix: strung(times, vectors)}, 0
}

// checkInstant: Instant and Toll answer what the words say. It tells the error.
func checkInstant(t *testing.T, s *store.Store, d api.Dataset, query string, at int64) api.Errno {
	t.Helper()
	want, wantToll, wantE := wordsInstant(d, query, at)
	if got, want := instant(s, query, at), told(want, wantE); got != want {
		t.Errorf("%.600q at %d of %s: %s; want %s", query, at, short(toldMatrix(d.Series)), short(got), short(want))
	}
	if toll, e := engine.Toll(s, query, at); toll != wantToll || e != wantE {
		t.Errorf("the toll of %.600q at %d of %s: %d, %d; want %d, %d", query, at, short(toldMatrix(d.Series)), toll, e, wantToll, wantE)
	}
	return wantE
}

// checkRange: Range answers what the words say. It tells the error.
func checkRange(t *testing.T, s *store.Store, d api.Dataset, query string, start, end, step int64) api.Errno {
	t.Helper()
	want, wantE := wordsRange(d, query, start, end, step)
	if got, want := told(engine.Range(s, query, start, end, step)), told(want, wantE); got != want {
		t.Errorf("%.600q from %d to %d by %d of %s: %s; want %s", query, start, end, step, short(toldMatrix(d.Series)), short(got), short(want))
	}
	return wantE
}
