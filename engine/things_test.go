package engine_test

import (
	"fmt"
	"math"
	"math/rand/v2"
	"slices"
	"strconv"
	"strings"
	"testing"

	"weir/api"
	"weir/check"
	"weir/engine"
	"weir/labels"
	"weir/store"
)

// number: one as a text; all NaNs in one way, and the noughts in two.
func number(v float64) string {
	if v != v {
		return "NaN"
	}
	return strconv.FormatFloat(v, 'g', -1, 64)
}

func toldPoint(p api.Sample) string {
	if p.Stale {
		return fmt.Sprintf("%d:_%s", p.T, number(p.V))
	}
	return fmt.Sprintf("%d:%s", p.T, number(p.V))
}

// toldSet: a label set as a text; of what is none, its labels.
func toldSet(ls []api.Label) string {
	if !labels.Valid(ls) {
		return fmt.Sprintf("no set: %q", ls)
	}
	return labels.Text(ls)
}

func toldVector(v []api.Elem) string {
	var list []string
	for _, x := range v {
		list = append(list, toldSet(x.Labels)+" "+number(x.V))
	}
	return strings.Join(list, "; ")
}

func toldMatrix(m []api.Series) string {
	var list []string
	for _, s := range m {
		text := toldSet(s.Labels)
		for _, p := range s.Points {
			text += " " + toldPoint(p)
		}
		list = append(list, text)
	}
	return strings.Join(list, "; ")
}

// told: an answer as a text: its type, its time and the field that is of this type; behind them each other field that isn't zero.
func told(a api.Result, e api.Errno) string {
	if e != 0 && a.Type == 0 && a.T == 0 && math.Float64bits(a.V) == 0 && a.Text == "" && len(a.Vector) == 0 && len(a.Matrix) == 0 {
		return fmt.Sprintf("error %d", int(e))
	}
	var b strings.Builder
	if e != 0 {
		fmt.Fprintf(&b, "error %d, and beside it ", int(e))
	}
	fmt.Fprintf(&b, "%s at %d:", []string{"nothing", "scalar", "string", "vector", "matrix"}[a.Type], a.T)
	if a.Type == api.ValScalar || math.Float64bits(a.V) != 0 {
		b.WriteString(" " + number(a.V))
	}
	if a.Type == api.ValString || a.Text != "" {
		fmt.Fprintf(&b, " %q", a.Text)
	}
	if len(a.Vector) > 0 {
		b.WriteString(" " + toldVector(a.Vector))
	}
	if len(a.Matrix) > 0 {
		b.WriteString(" " + toldMatrix(a.Matrix))
	}
	return b.String()
}

func short(text string) string { return text[:min(len(text), 700)] }

// series: one of a text: a label set, and behind it points, each its time and its value with a colon between them (of a stale one a line for the value).
func series(text string) api.Series {
	end := strings.LastIndexAny(text, "}")
	if end < 0 {
		end = strings.IndexByte(text+" ", ' ') - 1
	}
	ls, e := labels.Read(text[:end+1])
	if e != 0 {
		panic("a test's series: " + text)
	}
	s := api.Series{Labels: ls}
	for _, one := range strings.Fields(text[end+1:]) {
		at, value, _ := strings.Cut(one, ":")
		p := api.Sample{Stale: value == "_"}
		var err error
		if p.T, err = strconv.ParseInt(at, 10, 64); err != nil {
			panic("a test's point: " + one)
		}
		if p.V, err = strconv.ParseFloat(value, 64); err != nil && !p.Stale {
			panic("a test's point: " + one)
		}
		s.Points = append(s.Points, p)
	}
	return s
}

func data(texts ...string) api.Dataset {
	var d api.Dataset
	for _, text := range texts {
		d.Series = append(d.Series, series(text))
	}
	return d
}

func load(d api.Dataset) *store.Store {
	s, i, e := store.Load(d)
	if e != 0 {
		panic(fmt.Sprintf("a test's dataset: %d, %d", i, int(e)))
	}
	return s
}

func loaded(texts ...string) *store.Store { return load(data(texts...)) }

// example: the chapter's dataset.
func example() *store.Store {
	return loaded(`up{job="a"} 0:1 60000:2 120000:3`, `up{job="b"} 0:10 60000:_`)
}

// An ask is a query at a time, with what is answered to it.
type ask struct {
	query string
	at    int64
	want  string
}

func instant(s *store.Store, query string, at int64) string {
	return told(engine.Instant(s, query, at))
}

// verify: Instant answers just so, and Toll refuses the same.
func verify(t *testing.T, s *store.Store, asks ...ask) {
	t.Helper()
	for _, a := range asks {
		if got := instant(s, a.query, a.at); got != a.want {
			t.Errorf("%.200q at %d: %s; want %s", a.query, a.at, short(got), short(a.want))
		}
		_, e := engine.Instant(s, a.query, a.at)
		if toll, tollE := engine.Toll(s, a.query, a.at); tollE != e || tollE != 0 && toll != 0 || tollE == 0 && toll < 1 {
			t.Errorf("the toll of %.200q at %d: %d, %d; want the error %d", a.query, a.at, toll, tollE, e)
		}
	}
}

// A tour is a query over a range, with what is answered to it.
type tour struct {
	query            string
	start, end, step int64
	want             string
}

func verifyRange(t *testing.T, s *store.Store, tours ...tour) {
	t.Helper()
	for _, a := range tours {
		if got := told(engine.Range(s, a.query, a.start, a.end, a.step)); got != a.want {
			t.Errorf("%.200q from %d to %d by %d: %s; want %s", a.query, a.start, a.end, a.step, short(got), short(a.want))
		}
	}
}

// A chance makes things that look random, the same ones in each run. Its queries leave out what isn't wanted.
type chance struct {
	dice *rand.Rand
	// ends: @ start() and @ end() too. moving: only what moves along with time (P24.4).
	ends, moving bool
}

func newChance(seed uint64) chance { return chance{dice: rand.New(rand.NewPCG(24, seed))} }

func pick[T any](c chance, l ...T) T { return l[c.dice.IntN(len(l))] }

// one: is this one of so many cases?
func (c chance) one(of int) bool { return c.dice.IntN(of) == 0 }

func (c chance) yes() bool { return c.one(2) }

func (c chance) value() float64 {
	if c.one(3) {
		return pick(c, math.NaN(), math.Inf(1), math.Inf(-1), math.Copysign(0, -1), 0, 0.1, -2.5, 1e300, math.SmallestNonzeroFloat64, 1700000000)
	}
	return float64(c.dice.IntN(20) - 4)
}

// points: rising, some stale, around the time 0, with gaps that a selector looks over and such as it doesn't.
func (c chance) points() []api.Sample {
	var list []api.Sample
	t := int64(c.dice.IntN(400000) - 400000)
	for range c.dice.IntN(30) {
		list = append(list, api.Sample{T: t, V: c.value(), Stale: c.one(9)})
		t += pick[int64](c, 1, 500, 15000, 30000, 30000, 60000, 60000, 60000, 299999, 300000, 301000)
	}
	return list
}

func metrics() []string { return []string{"up", "up", "down", "x:y", "le_bucket"} }

// dataset: up to so many series; the labels stand ahead of the name and behind it.
func (c chance) dataset(most int) api.Dataset {
	var d api.Dataset
	for range most - c.dice.IntN(most*3/4+1) {
		var ls []api.Label
		add := func(name string, values ...string) {
			if v := pick(c, values...); v != "" {
				ls = append(ls, api.Label{Name: name, Value: v})
			}
		}
		add("A", "", "", "1", "2")
		add("__name__", "", "up", "up", "up", "down", "x:y", "le_bucket")
		add("job", "", "a", "a", "b", "c\n", "é")
		add("le", "", "", "", "1", "2.5", "+Inf")
		if !slices.ContainsFunc(d.Series, func(s api.Series) bool { return slices.Equal(s.Labels, ls) }) {
			d.Series = append(d.Series, api.Series{Labels: ls, Points: c.points()})
		}
	}
	return d
}

func (c chance) instant() int64 {
	if c.one(12) {
		return pick[int64](c, api.MinTime, api.MaxTime, api.MinTime-1, api.MaxTime+1, math.MinInt64, math.MaxInt64)
	}
	return int64(c.dice.IntN(900000) - 100000)
}

func (c chance) matcher() string {
	name := pick(c, "A", "job", "job", "le", "__name__", "none")
	values := map[string][]string{"A": {"1", "2"}, "job": {"a", "b", "c\\n", "é"}, "le": {"1", "+Inf"}, "__name__": {"up", "down"}, "none": {"x"}}[name]
	op := pick(c, "=", "!=", "!=", "=~", "=~", "!~")
	value := pick(c, append(values, "")...)
	if op[1:] == "~" {
		value = pick(c, "", ".*", ".+", "a|b", "[a-z]*", "1|2|", "up|down", "u.", "(?i)UP", "é", "x*")
	}
	return name + op + `"` + value + `"`
}

func (c chance) selector() string {
	var ms []string
	for range pick(c, 0, 0, 0, 1, 1, 2) {
		ms = append(ms, c.matcher())
	}
	if c.one(3) {
		return "{" + strings.Join(append(ms, pick(c, `job=~".+"`, `__name__=~"up|down"`, `A!=""`, `__name__="up"`)), ",") + "}"
	}
	if len(ms) == 0 {
		return pick(c, metrics()...)
	}
	return pick(c, metrics()...) + "{" + strings.Join(ms, ",") + "}"
}

// when: offset and @, in either order, or one of them, or, mostly, none.
func (c chance) when() string {
	offset, at := "", ""
	if c.one(5) {
		offset = " offset " + pick(c, "", "-") + pick(c, "0s", "1ms", "30s", "30s", "1m", "1m", "5m", "1m1ms", "1m1ms", c.pastDur())
	}
	if c.one(6) && !c.moving {
		at = " @ " + pick(c, "0", "60", "60", "0.001", "119.9995", "1e2", "0x3C", "400", "253402300799.999")
		if c.ends && c.yes() {
			at = " @ " + pick(c, "start()", "end()")
		}
	}
	if c.yes() {
		return at + offset
	}
	return offset + at
}

func (c chance) pastDur() string { return pick(c, "1w", "10000y") }

func (c chance) dur() string {
	return pick(c, "1ms", "30s", "1m", "2m", "5m", "5m1ms", "5m", "10m", "10m", "1h")
}

func (c chance) matrix(depth int) string {
	if depth < 1 || c.yes() || c.moving {
		return c.selector() + "[" + c.dur() + "]" + c.when()
	}
	step := pick(c, "", "1m", "90s", "7s", "1h", "30001ms")
	return "(" + c.vector(depth-1) + ")[" + c.dur() + ":" + step + "]" + c.when()
}

func (c chance) scalar(depth int) string {
	if depth < 1 || c.one(3) {
		return pick(c, "0", "1", "2.5", "0x10", "1e3", "nan", "inf", "5m", "1ms", "1m30s", "pi()", c.clock())
	}
	switch c.dice.IntN(4) {
	case 0:
		return "scalar(" + c.vector(depth-1) + ")"
	case 1:
		return pick(c, "-", "+") + "(" + c.scalar(depth-1) + ")"
	}
	op := pick(c, "+", "-", "*", "/", "%", "^", "== bool", "< bool", ">= bool")
	return "(" + c.scalar(depth-1) + ") " + op + " (" + c.scalar(depth-1) + ")"
}

// clock: time(), where it may be.
func (c chance) clock() string {
	if c.moving {
		return "7"
	}
	return "time()"
}

func (c chance) labels() string {
	var list []string
	for range c.dice.IntN(4) {
		list = append(list, pick(c, "A", "job", "le", "none", "__name__"))
	}
	return " (" + strings.Join(list, ",") + ")"
}

// joined: an operator between two vectors.
func (c chance) joined(depth int) string {
	op := pick(c, "+", "-", "*", "/", "%", "^", "==", "!=", "<", ">= bool", "and", "or", "unless")
	mods := ""
	if c.yes() {
		mods = pick(c, " on", " ignoring") + c.labels()
		if c.yes() && !strings.ContainsAny(op[:1], "aou") {
			mods += pick(c, " group_left", " group_right") + pick(c, " ()", " (A)", " (none, __name__)")
		}
	}
	return "(" + c.vector(depth-1) + ") " + op + mods + " (" + c.vector(depth-1) + ")"
}

func (c chance) mixed(depth int) string {
	op := pick(c, "+", "-", "*", "/", "%", "^", "==", "!=", "< bool", ">=")
	if c.yes() {
		return "(" + c.vector(depth-1) + ") " + op + " (" + c.scalar(depth-1) + ")"
	}
	return "(" + c.scalar(depth-1) + ") " + op + " (" + c.vector(depth-1) + ")"
}

func (c chance) gathered(depth int) string {
	op := pick(c, "avg", "count", "group", "max", "min", "stddev", "stdvar", "sum", "topk", "bottomk", "quantile", "count_values")
	param := ""
	switch op {
	case "topk", "bottomk", "quantile":
		param = pick(c, "1", "0.5", "2", c.scalar(depth-1)) + ", "
	case "count_values":
		param = pick(c, `"job"`, `"v"`, `"__name__"`) + ", "
	}
	return op + pick(c, "", " by"+c.labels(), " without"+c.labels()) + " (" + param + c.vector(depth-1) + ")"
}

// called: a call of one of the functions that answer vectors, as layer 14 has them.
func (c chance) called(depth int) string {
	name := pick(c, check.Funcs()...)
	sig, _ := check.Func(name)
	calendar := sig.Least == 0
	if sig.Result != api.ValVector || c.moving && (calendar || name == "timestamp") {
		return c.called(depth)
	}
	switch name {
	case "label_replace":
		return "label_replace(" + c.vector(depth-1) + `, ` + pick(c, `"job"`, `"n"`, `"__name__"`) + `, ` + pick(c, `"$1"`, `"x"`, `""`) + `, ` + pick(c, `"job"`, `"A"`) + `, ` + pick(c, `"(.*)"`, `"a"`, `"(.)|b"`) + `)`
	case "label_join":
		return "label_join(" + c.vector(depth-1) + `, ` + pick(c, `"job"`, `"n"`) + `, "-"` + pick(c, "", `, "A"`, `, "job", "le"`) + ")"
	}
	var args []string
	for i := range sig.Least + c.dice.IntN(len(sig.Args)-sig.Least+1) {
		switch sig.Args[i] {
		case api.ValScalar:
			args = append(args, pick(c, "0.5", "0.3", c.scalar(depth-1)))
		case api.ValVector:
			args = append(args, c.vector(depth-1))
		default:
			args = append(args, c.matrix(depth-1))
		}
	}
	return name + "(" + strings.Join(args, ", ") + ")"
}

func (c chance) vector(depth int) string {
	if depth < 1 || c.one(6) {
		return c.selector() + c.when()
	}
	switch c.dice.IntN(8) {
	case 0:
		return pick(c, "-", "+") + "(" + c.vector(depth-1) + ")"
	case 1:
		return c.joined(depth)
	case 2:
		return c.mixed(depth)
	case 3:
		return c.gathered(depth)
	case 4:
		return "vector(" + c.scalar(depth-1) + ")"
	}
	return c.called(depth)
}

// query: one of any type.
func (c chance) query(depth int) string {
	switch c.dice.IntN(10) {
	case 0:
		return c.scalar(depth)
	case 1:
		return c.matrix(depth)
	case 2:
		return pick(c, `"a"`, `'é\n'`, "``")
	}
	return c.vector(depth)
}

// spoilt: a query with a slip or two in it.
func (c chance) spoilt(query string) string {
	for range 1 + c.dice.IntN(2) {
		at := c.dice.IntN(len(query) + 1)
		switch c.dice.IntN(3) {
		case 0:
			query = query[:at] + pick(c, "(", ")", "[5m]", "[5m:]", " + ", `"x"`, " bool ", "1", "\xff", "rate", ",", " offset 5m", " @ 1e300", "{}") + query[at:]
		case 1:
			query = query[:at] + query[min(at+1+c.dice.IntN(3), len(query)):]
		case 2:
			query = query[:at]
		}
	}
	return query
}
