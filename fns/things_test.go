package fns_test

import (
	"fmt"
	"math"
	"math/rand/v2"
	"slices"
	"strconv"
	"strings"
	"testing"

	"weir/api"
	"weir/fns"
	"weir/labels"
)

var (
	nan, inf, minus = math.NaN(), math.Inf(1), math.Copysign(0, -1)
	greatest, least = math.MaxFloat64, math.SmallestNonzeroFloat64
)

// otherNaN: a NaN of other bits.
func otherNaN() float64 { return math.Float64frombits(0xFFF0000000000007) }

// same: are two numbers alike?
func same(a, b float64) bool {
	return a != a && b != b || math.Float64bits(a) == math.Float64bits(b)
}

func sameElems(a, b []api.Elem) bool {
	return slices.EqualFunc(a, b, func(x, y api.Elem) bool { return same(x.V, y.V) && slices.Equal(x.Labels, y.Labels) })
}

func sameValue(a, b api.Value) bool {
	return a.Type == b.Type && same(a.V, b.V) && a.Text == b.Text && sameElems(a.Vector, b.Vector)
}

// number: one as a text; all NaNs in one way, and the noughts in two.
func number(v float64) string {
	if v != v {
		return "NaN"
	}
	return strconv.FormatFloat(v, 'g', -1, 64)
}

// told: a vector as a text, whatever it is.
func told(v []api.Elem) string {
	var b strings.Builder
	for _, x := range v {
		fmt.Fprintf(&b, "%q %s, ", x.Labels, number(x.V))
	}
	return b.String()
}

func toldValue(a api.Value) string {
	return fmt.Sprintf("type %d: %s %q [%s]", a.Type, number(a.V), a.Text, told(a.Vector))
}

func toldArgs(args []api.Value) string {
	var b strings.Builder
	for _, a := range args[:min(len(args), 20)] {
		b.WriteString(toldValue(a) + "; ")
	}
	return short(b.String())
}

func short(text string) string { return text[:min(len(text), 600)] }

// vec: a vector of elements that are written as the text of a label set, a blank, and a number; they are parted by semicolons.
func vec(text string) []api.Elem {
	var v []api.Elem
	for part := range strings.SplitSeq(text, ";") {
		part = strings.TrimSpace(part)
		if part == "" {
			continue
		}
		cut := strings.LastIndex(part, " ")
		ls, e := labels.Read(part[:cut])
		x, err := strconv.ParseFloat(part[cut+1:], 64)
		if e != 0 || err != nil {
			panic("a test's vector: " + part)
		}
		v = append(v, api.Elem{Labels: ls, V: x})
	}
	return v
}

// line: a vector without a name, with the labels n rising in canonical order, of these values.
func line(values ...float64) []api.Elem {
	var v []api.Elem
	for i, x := range values {
		v = append(v, api.Elem{Labels: set("n", fmt.Sprint(1000000+i)), V: x})
	}
	return v
}

// set: labels from names and values in turns.
func set(texts ...string) []api.Label {
	var ls []api.Label
	for two := range slices.Chunk(texts, 2) {
		ls = append(ls, api.Label{Name: two[0], Value: two[1]})
	}
	return ls
}

func vectorArg(v []api.Elem) api.Value { return api.Value{Type: api.ValVector, Vector: v} }

func numberArg(v float64) api.Value { return api.Value{Type: api.ValScalar, V: v} }

func textArg(s string) api.Value { return api.Value{Type: api.ValString, Text: s} }

// args: arguments from vectors, vectors' texts behind a v:, numbers and texts.
func args(things ...any) []api.Value {
	var out []api.Value
	for _, x := range things {
		switch x := x.(type) {
		case []api.Elem:
			out = append(out, vectorArg(x))
		case float64:
			out = append(out, numberArg(x))
		case int:
			out = append(out, numberArg(float64(x)))
		case string:
			if text, ok := strings.CutPrefix(x, "v:"); ok {
				out = append(out, vectorArg(vec(text)))
			} else {
				out = append(out, textArg(x))
			}
		}
	}
	return out
}

// verify: what Call answered is what is wanted.
func verify(t *testing.T, name string, args []api.Value, at int64, want api.Value, wantE api.Errno) {
	t.Helper()
	got, e := fns.Call(name, args, at)
	if e != wantE || !sameValue(got, want) {
		t.Errorf("%.40q at %d of %s = %s, %d; want %s, %d", name, at, toldArgs(args), short(toldValue(got)), e, short(toldValue(want)), wantE)
	}
}

// checkCall: Call answers what the words say. It tells the error.
func checkCall(t *testing.T, name string, args []api.Value, at int64) api.Errno {
	t.Helper()
	want, wantE := wordsCall(name, args, at)
	verify(t, name, args, at, want, wantE)
	return wantE
}

// verifyVector: what one of the other calls answered is what is wanted.
func verifyVector(t *testing.T, got []api.Elem, e api.Errno, want []api.Elem, wantE api.Errno, call string, about ...any) {
	t.Helper()
	if e != wantE || !sameElems(got, want) {
		t.Errorf("%s of %s = %s, %d; want %s, %d", call, short(fmt.Sprintf("%q", about)), short(told(got)), e, short(told(want)), wantE)
	}
}

func checkReplace(t *testing.T, v []api.Elem, dst, template, src, pattern string) api.Errno {
	t.Helper()
	got, e := fns.LabelReplace(v, dst, template, src, pattern)
	want, wantE := wordsReplace(v, dst, template, src, pattern)
	verifyVector(t, got, e, want, wantE, "LabelReplace", told(v), dst, template, src, pattern)
	return wantE
}

func checkJoin(t *testing.T, v []api.Elem, dst, sep string, srcs []string) api.Errno {
	t.Helper()
	got, e := fns.LabelJoin(v, dst, sep, srcs)
	want, wantE := wordsJoin(v, dst, sep, srcs)
	verifyVector(t, got, e, want, wantE, "LabelJoin", told(v), dst, sep, srcs)
	return wantE
}

func checkHistogram(t *testing.T, q float64, v []api.Elem) api.Errno {
	t.Helper()
	got, e := fns.Histogram(q, v)
	want, wantE := wordsHistogram(q, v)
	verifyVector(t, got, e, want, wantE, "Histogram", number(q), told(v))
	return wantE
}

func checkSort(t *testing.T, v []api.Elem, down bool) api.Errno {
	t.Helper()
	got, e := fns.Sort(v, down)
	want, wantE := wordsSort(v, down)
	verifyVector(t, got, e, want, wantE, "Sort", told(v), fmt.Sprint(down))
	return wantE
}

func checkAbsent(t *testing.T, ms []api.Matcher) {
	t.Helper()
	verifyVector(t, fns.Absent(ms), 0, wordsAbsent(ms), 0, "Absent", fmt.Sprint(ms))
}

// special: the floats at which things end, of both signs.
func special() []float64 {
	out := []float64{nan, otherNaN()}
	for _, v := range []float64{0, least, 2 * least, math.Float64frombits(1<<52 - 1), math.Float64frombits(1 << 52), 1e-300, 0.001, 0.1, math.Nextafter(0.5, 0), 0.5, math.Nextafter(0.5, 1), math.Nextafter(1, 0), 1, math.Nextafter(1, 2), 1.5, math.Nextafter(2, 0), 2, 2.5, 3, 10, 1000, 1<<31 - 1, 1 << 31, 1 << 32, 1<<52 - 0.5, 1 << 52, 1<<53 - 1, 1 << 53, 1<<53 + 2, math.Nextafter(1<<63, 0), 1 << 63, math.Nextafter(1<<63, inf), 1 << 64, 1e100, greatest / 180, greatest / 3, greatest, inf} {
		out = append(out, v, -v)
	}
	return out
}

// wrongNames: texts that are no function of this layer: each name with a letter more or less, in other letters, and others.
func wrongNames() []string {
	out := []string{"", " ", "_", "absent", "absent_over_time", "time", "timestamp", "rate", "sum", "acos", "sin", "clamp_", "label", "label_", "histogram", "quantile", "sort_by_label", "minutes", "second", "\x00", "\xff", strings.Repeat("abs", 1<<19)}
	for _, name := range names() {
		n := len(name)
		out = append(out, name[1:], name[:n-1], name+" ", " "+name, name+"\x00", "\x00"+name, name+"s", "x"+name, name+name, strings.ToUpper(name), strings.ToUpper(name[:1])+name[1:], name[:n-1]+strings.ToUpper(name[n-1:]))
		for i := range n {
			out = append(out, name[:i]+"-"+name[i+1:], name[:i]+name[i+1:])
		}
	}
	slices.Sort(out)
	return slices.DeleteFunc(slices.Compact(out), func(s string) bool { return slices.Contains(names(), s) })
}

// wrongLabels: texts that are no label's name.
func wrongLabels() []string {
	return []string{"", "1", "0a", "a:b", ":a", "a b", " a", "a ", "a-b", "a.b", "é", "aé", "\xff", "a\xff", "a\x00", "\x00", "a\n", "{a}", "\"a\"", strings.Repeat("a", 1<<16) + "-"}
}

// wrongTexts: bytes that are no UTF-8.
func wrongTexts() []string {
	return []string{"\xff", "a\xff", "\xc3", "$1\xc3", "\xed\xa0\x80", "\xf4\x90\x80\x80", "\xc0\x80", "\xffa", strings.Repeat("a", 1<<16) + "\x80"}
}

// wrongPatterns: texts that are no pattern.
func wrongPatterns() []string {
	return []string{"(", ")", "[", "a**", "\\8", "(?z)", "(?P<->a)", "(?P<a>.)(?P<a>.)", "(a{1000}){1000}", "\xff", "a\xc3", strings.Repeat("a", api.MaxPattern+1), strings.Repeat("()", api.MaxRxGroups+1), strings.Repeat("(?:", api.MaxRxDepth+1)}
}

// unsound: lists of labels that are no label set, one for each way of not being one.
func unsound() [][]api.Label {
	return [][]api.Label{
		set("b", "1", "a", "1"), set("a", "1", "a", "1"), set("a", "1", "a", "2"), set("a", ""), set("", "1"), set("0a", "1"), set("a:b", "1"), set("a b", "1"), set("é", "1"), set("\xff", "1"), set("a", "\xff"), set("a", "1", "b", "\xed\xa0\x80"), set("__name__", ""), set("__name__", "up", "__name__", "up"), set("a", "1", "__name__", "up"),
	}
}

// spoilt: the vector with one element more, for each way of not being sound, at each end and in the middle.
func spoilt(v []api.Elem) [][]api.Elem {
	var out [][]api.Elem
	wrong := unsound()
	for _, x := range v {
		wrong = append(wrong, x.Labels)
	}
	for _, ls := range wrong {
		for _, at := range []int{0, len(v) / 2, len(v)} {
			out = append(out, slices.Insert(slices.Clone(v), at, api.Elem{Labels: ls, V: 9}))
		}
	}
	return out
}

// permuted: the vector in every order.
func permuted(v []api.Elem) [][]api.Elem {
	if len(v) == 0 {
		return [][]api.Elem{nil}
	}
	var out [][]api.Elem
	for _, rest := range permuted(v[1:]) {
		for at := range len(rest) + 1 {
			out = append(out, slices.Insert(slices.Clone(rest), at, v[0]))
		}
	}
	return out
}

// A chance makes things that look random, the same ones in each run.
type chance struct {
	dice  *rand.Rand
	wrong []string // names of no function
}

func newChance(seed uint64) chance {
	return chance{rand.New(rand.NewPCG(23, seed)), wrongNames()}
}

func pick[T any](c chance, l []T) T { return l[c.dice.IntN(len(l))] }

func (c chance) yes() bool { return c.dice.IntN(2) == 0 }

// one: is this one of so many cases?
func (c chance) one(of int) bool { return c.dice.IntN(of) == 0 }

// goodLabels: labels' names, ahead of the name and behind it.
func goodLabels() []string { return []string{"A", "__name__", "a", "b", "le"} }

// labelSet: one out of few, so that many fall together.
func (c chance) labelSet() []api.Label {
	var ls []api.Label
	for _, name := range goodLabels() {
		if c.dice.IntN(5) < 3 {
			ls = append(ls, api.Label{Name: name, Value: pick(c, []string{"1", "2", "2", "+Inf", "1.0", "x-y", "é", "0x2"})})
		}
	}
	return ls
}

func (c chance) value() float64 {
	switch c.dice.IntN(5) {
	case 0:
		return pick(c, special())
	case 1:
		return c.dice.NormFloat64()
	case 2:
		return c.dice.Float64()*4e11 - 1e11
	}
	return float64(c.dice.IntN(4) - 1)
}

// vector: of up to that many elements; with slips now and then one that isn't sound.
func (c chance) vector(most int, slips bool) []api.Elem {
	var v []api.Elem
	for range c.dice.IntN(most + 1) {
		ls := c.labelSet()
		if !slices.ContainsFunc(v, func(x api.Elem) bool { return slices.Equal(x.Labels, ls) }) {
			v = append(v, api.Elem{Labels: ls, V: c.value()})
		}
	}
	if slips && c.one(12) {
		return pick(c, spoilt(v))
	}
	return v
}

// apart: a vector whose elements don't fall together without the name, in most cases.
func (c chance) apart(most int) []api.Elem {
	var v []api.Elem
	for i := range c.dice.IntN(most + 1) {
		ls := labels.With(c.labelSet(), "z", strconv.Itoa(i))
		v = append(v, api.Elem{Labels: ls, V: c.value()})
	}
	c.dice.Shuffle(len(v), func(i, j int) { v[i], v[j] = v[j], v[i] })
	return v
}

// label: mostly a label's name.
func (c chance) label(slips bool) string {
	if slips && c.one(12) {
		return pick(c, wrongLabels())
	}
	return pick(c, append(goodLabels(), "c", "_", "by"))
}

func (c chance) labels(most int, slips bool) []string {
	var list []string
	for range c.dice.IntN(most + 1) {
		list = append(list, c.label(slips && c.one(3)))
	}
	return list
}

func (c chance) template(slips bool) string {
	if slips && c.one(12) {
		return pick(c, wrongTexts())
	}
	return pick(c, []string{"", "", "x", "$1", "$2", "$0", "${1}x", "$1$2", "$2-$1", "$$", "$", "$9", "$x", "${x}_${y}", "é$1", "$1$1$1", "\x00\x01$1\x02", "${1", "$01", "a\nb"})
}

func (c chance) pattern(slips bool) string {
	if slips && c.one(12) {
		return pick(c, wrongPatterns())
	}
	return pick(c, []string{"", ".*", "(.*)", "(.*)-(.*)", "(.)(.*)", "1|2", "(1)|(2)", "(?P<x>.)(?P<y>.*)", "(?s)(.*)", "z", "[0-9]+", "(?:(a)|b|(.))*", "x-y", "(.*?)(.*)", "()(.+)", "(1.0|1)(.*)"})
}

func (c chance) sep(slips bool) string {
	if slips && c.one(12) {
		return pick(c, wrongTexts())
	}
	return pick(c, []string{"", "-", ", ", "é", "\x00"})
}

// matchers: those that absent is asked with; any bytes may stand in them.
func (c chance) matchers(most int) []api.Matcher {
	var ms []api.Matcher
	for range c.dice.IntN(most + 1) {
		m := api.Matcher{Name: pick(c, append(goodLabels(), "c", "d")), Op: api.MatchEq, Value: pick(c, []string{"1", "1", "2", "", "é", "x"})}
		if c.one(4) {
			m.Op = c.dice.IntN(7) - 1
		}
		if c.one(10) {
			m.Name = pick(c, wrongLabels()[:19])
		}
		if c.one(10) {
			m.Value = pick(c, wrongTexts()[:8])
		}
		ms = append(ms, m)
	}
	return ms
}

// instants: times at which the calendar turns, and both ends of their type.
func instants() []int64 {
	out := []int64{math.MinInt64, math.MinInt64 + 1, -1 << 53, math.MaxInt64 - 1, math.MaxInt64, 1<<53 + 1}
	for _, t := range []int64{0, 1, 999, 1000, 60000, 3600000, 86400000, 951782400000, 951868800000, 1709164800000, 4107456000000, api.MinTime, api.MaxTime, api.MaxTime + 1} {
		out = append(out, t-1, t, t+1, -t)
	}
	return out
}

func (c chance) instant() int64 {
	if c.yes() {
		return pick(c, instants())
	}
	return c.dice.Int64N(api.MaxTime-api.MinTime) + api.MinTime
}

// argument: one of that type, with something in the fields that count for nothing.
func (c chance) argument(kind int, slips bool) api.Value {
	a := api.Value{Type: kind}
	if kind == api.ValScalar || c.one(4) {
		a.V = c.value()
	}
	if kind == api.ValString || c.one(4) {
		a.Text = c.label(slips)
	}
	if kind == api.ValVector {
		a.Vector = c.vector(6, slips)
		if c.yes() {
			a.Vector = c.apart(6)
		}
	} else if c.one(4) {
		a.Vector = pick(c, spoilt(vec(`up 1`)))
	}
	return a
}

// arguments: such as the function takes; with slips now and then others.
func (c chance) arguments(name string, slips bool) []api.Value {
	a := signatures()[name]
	n := a.least
	if most := len(a.types); most > n {
		n += c.dice.IntN(most - n + 1)
	}
	if a.more && c.yes() {
		n += c.dice.IntN(4)
	}
	if slips && c.one(10) {
		n = c.dice.IntN(7)
	}
	var out []api.Value
	for i := range n {
		kind := api.ValVector
		if len(a.types) > 0 {
			kind = a.types[min(i, len(a.types)-1)]
		}
		if slips && c.one(20) {
			kind = c.dice.IntN(6)
		}
		out = append(out, c.argument(kind, slips))
	}
	if name == "label_replace" && n == 5 {
		out[2].Text, out[4].Text = c.template(slips), c.pattern(slips)
	}
	if name == "label_join" && n > 2 {
		out[2].Text = c.sep(slips)
	}
	return out
}
