package pair_test

import (
	"fmt"
	"math"
	"math/rand/v2"
	"slices"
	"strings"
	"testing"

	"weir/api"
	"weir/labels"
	"weir/pair"
)

var (
	nan, inf, minus = math.NaN(), math.Inf(1), math.Copysign(0, -1)
	greatest, least = math.MaxFloat64, math.SmallestNonzeroFloat64
)

// same: are two numbers alike?
func same(a, b float64) bool {
	return a != a && b != b || math.Float64bits(a) == math.Float64bits(b)
}

func sameElems(a, b []api.Elem) bool {
	return slices.EqualFunc(a, b, func(x, y api.Elem) bool { return same(x.V, y.V) && slices.Equal(x.Labels, y.Labels) })
}

// told: a vector as a text, whatever it is; all NaNs in one way, and the noughts in two.
func told(v []api.Elem) string {
	var b strings.Builder
	for _, x := range v {
		fmt.Fprintf(&b, "%q %v, ", x.Labels, x.V)
	}
	return b.String()
}

// vec: a vector of elements that are written as the text of a label set, a blank, and a number; they are parted by semicolons.
func vec(text string) []api.Elem {
	var v []api.Elem
	for part := range strings.SplitSeq(text, ";") {
		part = strings.TrimSpace(part)
		if part == "" {
			continue
		}
		cut := strings.LastIndex(part, " ")
		ls, e := labels.Read(part[:cut])
		x := 0.0
		if _, err := fmt.Sscan(part[cut+1:], &x); e != 0 || err != nil {
			panic("a test's vector: " + part)
		}
		if part[cut+1:] == "-0" {
			x = minus
		}
		v = append(v, api.Elem{Labels: ls, V: x})
	}
	return v
}

// set: labels from names and values in turns.
func set(texts ...string) []api.Label {
	var ls []api.Label
	for two := range slices.Chunk(texts, 2) {
		ls = append(ls, api.Label{Name: two[0], Value: two[1]})
	}
	return ls
}

// asWanted: is what was answered what is wanted?
func asWanted(got []api.Elem, e api.Errno, want []api.Elem, wantE api.Errno) bool {
	return e == wantE && sameElems(got, want)
}

// verify: what was answered is what is wanted.
func verify(t *testing.T, got []api.Elem, e api.Errno, want []api.Elem, wantE api.Errno, call string, about ...any) {
	t.Helper()
	if !asWanted(got, e, want, wantE) {
		text := fmt.Sprintf("%v", about)
		t.Errorf("%s of %s = %s%d; want %s%d", call, text[:min(len(text), 3000)], told(got), e, told(want), wantE)
	}
}

// checkMixed, checkVectors, checkNegate: the answer is that of the words. Each tells its error.
func checkMixed(t *testing.T, op string, v []api.Elem, x float64, left, yes bool) api.Errno {
	t.Helper()
	got, e := pair.Mixed(op, v, x, left, yes)
	want, wantE := wordsMixed(op, v, x, left, yes)
	if !asWanted(got, e, want, wantE) {
		verify(t, got, e, want, wantE, "Mixed", op, told(v), x, left, yes)
	}
	return wantE
}

func checkVectors(t *testing.T, op string, l, r []api.Elem, m api.Matching, yes bool) api.Errno {
	t.Helper()
	got, e := pair.Vectors(op, l, r, m, yes)
	want, wantE := wordsVectors(op, l, r, m, yes)
	if !asWanted(got, e, want, wantE) {
		verify(t, got, e, want, wantE, "Vectors", op, told(l), told(r), fmt.Sprintf("%+v", m), yes)
	}
	return wantE
}

func checkNegate(t *testing.T, v []api.Elem) api.Errno {
	t.Helper()
	got, e := pair.Negate(v)
	want, wantE := wordsNegate(v)
	if !asWanted(got, e, want, wantE) {
		verify(t, got, e, want, wantE, "Negate", told(v))
	}
	return wantE
}

// special: the floats at which things end, of both signs.
func special() []float64 {
	out := []float64{nan, math.Float64frombits(0xFFF0000000000001)}
	for _, v := range []float64{0, least, 2 * least, math.Float64frombits(1<<52 - 1), math.Float64frombits(1 << 52), 1e-300, 0x1p-600, 0.001, 0.1, 0.5, math.Nextafter(1, 0), 1, math.Nextafter(1, 2), 1.5, 2, 3, 10, 1023, 1<<53 - 1, 1 << 53, 1<<53 + 2, 1e18, 1e100, 0x1p600, 0x1p1023, greatest, inf} {
		out = append(out, v, wordsOther(v))
	}
	return out
}

// wrongOperators: texts that are no operator at all: each one with a sign more or less, in other letters, two of them, and others.
func wrongOperators() []string {
	out := []string{"", " ", "=", "!", "=~", "!~", "=>", "=<", "<>", "><", "===", "**", "//", "atan2", "bool", "on", "not", "xor", "&", "|", "\x00", "\xff", "＋", "−", "×", "÷", strings.Repeat("+", 1<<20)}
	for _, op := range operators() {
		out = append(out, op[1:], op[:len(op)-1], op+" ", " "+op, op+"\x00", "\x00"+op, op+op, op+"+", op+"=", "x"+op, op+"x", strings.ToUpper(op), strings.ToUpper(op[:1])+op[1:], op[:len(op)-1]+strings.ToUpper(op[len(op)-1:]))
		for _, other := range operators() {
			out = append(out, op+other, op+" "+other)
		}
	}
	slices.Sort(out)
	return slices.DeleteFunc(slices.Compact(out), func(s string) bool { return slices.Contains(operators(), s) })
}

// unsound: lists of labels that are no label set, one for each way of not being one.
func unsound() [][]api.Label {
	return [][]api.Label{
		set("b", "1", "a", "1"), set("a", "1", "a", "1"), set("a", "1", "a", "2"), set("a", ""), set("", "1"), set("0a", "1"), set("a:b", "1"), set("a b", "1"), set("é", "1"), set("\xff", "1"), set("a", "\xff"), set("a", "1", "b", "\xed\xa0\x80"), set("__name__", ""), set("__name__", "up", "__name__", "up"), set("a", "1", "__name__", "up"),
	}
}

// spoilt: the vector with one element more, for each way of not being sound, at each end and in the middle.
func spoilt(v []api.Elem) [][]api.Elem {
	var out [][]api.Elem
	wrong := unsound()
	for _, x := range v {
		wrong = append(wrong, x.Labels)
	}
	for _, ls := range wrong {
		for _, at := range []int{0, len(v) / 2, len(v)} {
			out = append(out, slices.Insert(slices.Clone(v), at, api.Elem{Labels: ls, V: 9}))
		}
	}
	return out
}

// permuted: the vector in every order.
func permuted(v []api.Elem) [][]api.Elem {
	if len(v) == 0 {
		return [][]api.Elem{nil}
	}
	var out [][]api.Elem
	for _, rest := range permuted(v[1:]) {
		for at := range len(rest) + 1 {
			out = append(out, slices.Insert(slices.Clone(rest), at, v[0]))
		}
	}
	return out
}

// A chance makes things that look random, the same ones in each run.
type chance struct {
	dice  *rand.Rand
	wrong []string // texts that are no operator
}

func newChance(seed uint64) chance {
	return chance{rand.New(rand.NewPCG(21, seed)), wrongOperators()}
}

func pick[T any](c chance, l []T) T { return l[c.dice.IntN(len(l))] }

func (c chance) yes() bool { return c.dice.IntN(2) == 0 }

// goodNames: labels' names, ahead of the name and behind it.
func goodNames() []string { return []string{"A", "__name__", "a", "b", "c"} }

func wrongNames() []string {
	return []string{"", "0", "a:b", "é", "\xff", "B", "__name", "__name__a", "aa", "a\x00", "A,"}
}

// labelSet: one out of few, so that keys meet.
func (c chance) labelSet() []api.Label {
	var ls []api.Label
	for _, name := range goodNames() {
		if c.dice.IntN(5) < 3 {
			ls = append(ls, api.Label{Name: name, Value: pick(c, []string{"1", "1", "1", "2"})})
		}
	}
	return ls
}

func (c chance) value() float64 {
	if c.dice.IntN(3) == 0 {
		return pick(c, special())
	}
	return float64(c.dice.IntN(4) - 1)
}

// vector: of up to that many elements; with slips now and then one that isn't sound.
func (c chance) vector(most int, slips bool) []api.Elem {
	var v []api.Elem
	for range c.dice.IntN(most + 1) {
		ls := c.labelSet()
		if !slices.ContainsFunc(v, func(x api.Elem) bool { return slices.Equal(x.Labels, ls) }) {
			v = append(v, api.Elem{Labels: ls, V: c.value()})
		}
	}
	if slips && c.dice.IntN(12) == 0 {
		return pick(c, spoilt(v))
	}
	return v
}

func (c chance) names(most int) []string {
	var list []string
	for range c.dice.IntN(most + 1) {
		if c.dice.IntN(6) == 0 {
			list = append(list, pick(c, wrongNames()))
		} else {
			list = append(list, pick(c, goodNames()))
		}
	}
	return list
}

func cards() []int { return []int{api.CardOne, api.CardLeft, api.CardRight} }

func wrongCards() []int { return []int{-1, 3, 4, 7, 1 << 32, -1 << 32, math.MaxInt, math.MinInt} }

func (c chance) matching(slips bool) api.Matching {
	m := api.Matching{Given: c.yes(), On: c.yes(), Labels: c.names(4), Card: pick(c, cards()), Include: c.names(3)}
	if slips && c.dice.IntN(12) == 0 {
		m.Card = pick(c, wrongCards())
	}
	return m
}

// op: any operator; with slips now and then none.
func (c chance) op(slips bool) string {
	if slips && c.dice.IntN(12) == 0 {
		return pick(c, c.wrong)
	}
	return pick(c, operators())
}
