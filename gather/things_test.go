package gather_test

import (
	"fmt"
	"math"
	"math/rand/v2"
	"slices"
	"strings"
	"testing"

	"weir/api"
	"weir/gather"
	"weir/labels"
)

var (
	nan, inf, minus = math.NaN(), math.Inf(1), math.Copysign(0, -1)
	greatest, least = math.MaxFloat64, math.SmallestNonzeroFloat64
)

// same: are two numbers alike?
func same(a, b float64) bool {
	return a != a && b != b || math.Float64bits(a) == math.Float64bits(b)
}

func sameElems(a, b []api.Elem) bool {
	return slices.EqualFunc(a, b, func(x, y api.Elem) bool { return same(x.V, y.V) && slices.Equal(x.Labels, y.Labels) })
}

// told: a vector as a text, whatever it is; all NaNs in one way, and the noughts in two.
func told(v []api.Elem) string {
	var b strings.Builder
	for _, x := range v {
		fmt.Fprintf(&b, "%q %v, ", x.Labels, x.V)
	}
	return b.String()
}

// vec: a vector of elements that are written as the text of a label set, a blank, and a number; they are parted by semicolons.
func vec(text string) []api.Elem {
	var v []api.Elem
	for part := range strings.SplitSeq(text, ";") {
		part = strings.TrimSpace(part)
		if part == "" {
			continue
		}
		cut := strings.LastIndex(part, " ")
		ls, e := labels.Read(part[:cut])
		x := 0.0
		if _, err := fmt.Sscan(part[cut+1:], &x); e != 0 || err != nil {
			panic("a test's vector: " + part)
		}
		if part[cut+1:] == "-0" {
			x = minus
		}
		v = append(v, api.Elem{Labels: ls, V: x})
	}
	return v
}

// line: a vector without a name, with the labels n from 10 on in canonical order, of these values.
func line(values ...float64) []api.Elem {
	var v []api.Elem
	for i, x := range values {
		v = append(v, api.Elem{Labels: set("n", fmt.Sprint(1000000+i)), V: x})
	}
	return v
}

// set: labels from names and values in turns.
func set(texts ...string) []api.Label {
	var ls []api.Label
	for two := range slices.Chunk(texts, 2) {
		ls = append(ls, api.Label{Name: two[0], Value: two[1]})
	}
	return ls
}

// by, without: a gathering by these labels, and by all but these.
func by(op string, names ...string) api.Gathering { return api.Gathering{Op: op, Labels: names} }

func without(op string, names ...string) api.Gathering {
	return api.Gathering{Op: op, Without: true, Labels: names}
}

// of: the gathering with that parameter.
func of(param float64, g api.Gathering) api.Gathering {
	g.Param = param
	return g
}

// into: the gathering with that label for values.
func into(name string, g api.Gathering) api.Gathering {
	g.Text = name
	return g
}

// verify: what was answered is what is wanted.
func verify(t *testing.T, g api.Gathering, v, got []api.Elem, e api.Errno, want []api.Elem, wantE api.Errno) {
	t.Helper()
	if e != wantE || !sameElems(got, want) {
		text := fmt.Sprintf("%+v of %s", g, told(v))
		t.Errorf("%s = %s%d; want %s%d", text[:min(len(text), 3000)], told(got), e, told(want), wantE)
	}
}

// check: the answer is that of the words. It tells its error.
func check(t *testing.T, g api.Gathering, v []api.Elem) api.Errno {
	t.Helper()
	got, e := gather.Gather(g, v)
	want, wantE := wordsGather(g, v)
	verify(t, g, v, got, e, want, wantE)
	return wantE
}

// A row is a gathering over a vector, and its answer.
type row struct {
	g       api.Gathering
	v, want string
}

func checkRows(t *testing.T, rows []row) {
	t.Helper()
	for _, r := range rows {
		v := vec(r.v)
		got, e := gather.Gather(r.g, v)
		verify(t, r.g, v, got, e, vec(r.want), 0)
	}
}

// special: the floats at which things end, of both signs.
func special() []float64 {
	out := []float64{nan, math.Float64frombits(0xFFF0000000000001)}
	for _, v := range []float64{0, least, 2 * least, math.Float64frombits(1<<52 - 1), math.Float64frombits(1 << 52), 1e-300, 0.001, 0.1, 0.5, math.Nextafter(1, 0), 1, math.Nextafter(1, 2), 1.5, math.Nextafter(2, 0), 2, 2.5, 3, 10, 1023, 1<<31 - 1, 1 << 31, 1 << 32, 1<<32 + 1, 1<<53 - 1, 1 << 53, 1<<53 + 2, math.Nextafter(1<<63, 0), 1 << 63, math.Nextafter(1<<63, inf), 1 << 64, 1e100, greatest, inf} {
		out = append(out, v, -v)
	}
	return out
}

// wrongOps: texts that are no aggregation at all: each one with a letter more or less, in other letters, two of them, and others.
func wrongOps() []string {
	out := []string{"", " ", "by", "without", "mean", "median", "total", "top", "bottom", "values", "count values", "countvalues", "count_value", "limitk", "limit_ratio", "var", "std", "first", "last", "rate", "sum_over_time", "\x00", "\xff", strings.Repeat("sum", 1<<19)}
	for _, op := range ops() {
		out = append(out, op[1:], op[:len(op)-1], op+" ", " "+op, op+"\x00", "\x00"+op, op+"s", "x"+op, strings.ToUpper(op), strings.ToUpper(op[:1])+op[1:], op[:len(op)-1]+strings.ToUpper(op[len(op)-1:]))
		for _, other := range ops() {
			out = append(out, op+other, op+" "+other)
		}
	}
	slices.Sort(out)
	return slices.DeleteFunc(slices.Compact(out), func(s string) bool { return slices.Contains(ops(), s) })
}

// wrongTexts: texts that are no label's name.
func wrongTexts() []string {
	return []string{"", "1", "0a", "a:b", ":a", "a b", " a", "a ", "a-b", "a.b", "é", "aé", "\xff", "a\xff", "a\x00", "\x00", "a\n", "{a}", "\"a\"", strings.Repeat("a", 1<<20) + "-"}
}

// unsound: lists of labels that are no label set, one for each way of not being one.
func unsound() [][]api.Label {
	return [][]api.Label{
		set("b", "1", "a", "1"), set("a", "1", "a", "1"), set("a", "1", "a", "2"), set("a", ""), set("", "1"), set("0a", "1"), set("a:b", "1"), set("a b", "1"), set("é", "1"), set("\xff", "1"), set("a", "\xff"), set("a", "1", "b", "\xed\xa0\x80"), set("__name__", ""), set("__name__", "up", "__name__", "up"), set("a", "1", "__name__", "up"),
	}
}

// spoilt: the vector with one element more, for each way of not being sound, at each end and in the middle.
func spoilt(v []api.Elem) [][]api.Elem {
	var out [][]api.Elem
	wrong := unsound()
	for _, x := range v {
		wrong = append(wrong, x.Labels)
	}
	for _, ls := range wrong {
		for _, at := range []int{0, len(v) / 2, len(v)} {
			out = append(out, slices.Insert(slices.Clone(v), at, api.Elem{Labels: ls, V: 9}))
		}
	}
	return out
}

// backward: the vector from its end on.
func backward(v []api.Elem) []api.Elem {
	v = slices.Clone(v)
	slices.Reverse(v)
	return v
}

// permuted: the vector in every order.
func permuted(v []api.Elem) [][]api.Elem {
	if len(v) == 0 {
		return [][]api.Elem{nil}
	}
	var out [][]api.Elem
	for _, rest := range permuted(v[1:]) {
		for at := range len(rest) + 1 {
			out = append(out, slices.Insert(slices.Clone(rest), at, v[0]))
		}
	}
	return out
}

// A chance makes things that look random, the same ones in each run.
type chance struct {
	dice         *rand.Rand
	wrong, texts []string // texts that are no aggregation, and that are no label's name
}

func newChance(seed uint64) chance {
	return chance{rand.New(rand.NewPCG(22, seed)), wrongOps(), wrongTexts()}
}

func pick[T any](c chance, l []T) T { return l[c.dice.IntN(len(l))] }

func (c chance) yes() bool { return c.dice.IntN(2) == 0 }

// goodNames: labels' names, ahead of the name and behind it.
func goodNames() []string { return []string{"A", "__name__", "a", "b", "c"} }

func wrongNames() []string {
	return []string{"", "0", "a:b", "é", "\xff", "B", "__name", "__name__a", "aa", "a\x00", "A,"}
}

// labelSet: one out of few, so that groups are large.
func (c chance) labelSet() []api.Label {
	var ls []api.Label
	for _, name := range goodNames() {
		if c.dice.IntN(5) < 3 {
			ls = append(ls, api.Label{Name: name, Value: pick(c, []string{"1", "2", "2", "3"})})
		}
	}
	return ls
}

func (c chance) value() float64 {
	switch c.dice.IntN(4) {
	case 0:
		return pick(c, special())
	case 1:
		return c.dice.NormFloat64()
	}
	return float64(c.dice.IntN(4) - 1)
}

// vector: of up to that many elements; with slips now and then one that isn't sound.
func (c chance) vector(most int, slips bool) []api.Elem {
	var v []api.Elem
	for range c.dice.IntN(most + 1) {
		ls := c.labelSet()
		if !slices.ContainsFunc(v, func(x api.Elem) bool { return slices.Equal(x.Labels, ls) }) {
			v = append(v, api.Elem{Labels: ls, V: c.value()})
		}
	}
	if slips && c.dice.IntN(12) == 0 {
		return pick(c, spoilt(v))
	}
	return v
}

func (c chance) names(most int) []string {
	var list []string
	for range c.dice.IntN(most + 1) {
		if c.dice.IntN(6) == 0 {
			list = append(list, pick(c, wrongNames()))
		} else {
			list = append(list, pick(c, goodNames()))
		}
	}
	return list
}

// param: mostly one that is right for quantile, or for topk.
func (c chance) param() float64 {
	switch c.dice.IntN(4) {
	case 0:
		return pick(c, special())
	case 1:
		return c.dice.Float64()
	}
	return float64(c.dice.IntN(6)) + float64(c.dice.IntN(2))/2
}

// gathering: any; with slips now and then one that is refused.
func (c chance) gathering(slips bool) api.Gathering {
	g := api.Gathering{Op: pick(c, ops()), Without: c.yes(), Labels: c.names(4), Param: c.param(), Text: pick(c, append(goodNames(), "v", "_", "by", "inf"))}
	if slips && c.dice.IntN(12) == 0 {
		g.Op = pick(c, c.wrong)
	}
	if slips && c.dice.IntN(6) == 0 {
		g.Text = pick(c, c.texts)
	}
	return g
}
