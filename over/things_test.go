package over_test

import (
	"fmt"
	"maps"
	"math"
	"math/rand/v2"
	"slices"
	"testing"

	"weir/api"
	"weir/over"
)

const bound = 1 << 53 // the farthest time of a sound window, either way

var (
	nan, inf, minus = math.NaN(), math.Inf(1), math.Copysign(0, -1)
	greatest, least = math.MaxFloat64, math.SmallestNonzeroFloat64
)

// same: are two numbers alike?
func same(a, b float64) bool {
	return a != a && b != b || math.Float64bits(a) == math.Float64bits(b)
}

// verify: what was answered is alike to what is wanted, and there is an answer where there should be one.
func verify(t *testing.T, got float64, ok bool, want float64, wantOK bool, call string, about ...any) {
	t.Helper()
	if !same(got, want) || ok != wantOK {
		t.Errorf("%s of %s = %v (%016X), %v; want %v (%016X), %v", call, short(about), got, math.Float64bits(got), ok, want, math.Float64bits(want), wantOK)
	}
}

func short(about []any) string {
	text := fmt.Sprintf("%+v", about)
	return text[:min(len(text), 2000)]
}

// checkCall: Call answers that number.
func checkCall(t *testing.T, name string, w api.Window, args []float64, want float64) {
	t.Helper()
	v, ok := over.Call(name, w, args)
	verify(t, v, ok, want, true, name, w, args)
}

// checkNone: Call has no answer.
func checkNone(t *testing.T, name string, w api.Window, args []float64) {
	t.Helper()
	v, ok := over.Call(name, w, args)
	verify(t, v, ok, 0, false, name, w, args)
}

// checkWords: all that may be asked of a window is answered by the chapter's words, with numbers for the functions that take some.
func checkWords(t *testing.T, w api.Window, numbers ...float64) {
	t.Helper()
	for _, name := range sortedNames() {
		args := numbers[:names()[name].scalars]
		v, ok := over.Call(name, w, args)
		want, wantOK := wordsCall(name, w, args)
		verify(t, v, ok, want, wantOK, name, w, args)
	}
	for _, counter := range []bool{false, true} {
		v, ok := over.Instant(w, counter)
		want, wantOK := wordsInstant(w, counter)
		verify(t, v, ok, want, wantOK, "Instant", w, counter)
		for _, perSecond := range []bool{false, true} {
			v, ok := over.Extrapolate(w, counter, perSecond)
			want, wantOK := wordsExtrapolate(w, counter, perSecond)
			verify(t, v, ok, want, wantOK, "Extrapolate", w, counter, perSecond)
		}
	}
}

func sortedNames() []string {
	return slices.Sorted(maps.Keys(names()))
}

// some: so many numbers that every function takes.
func some(n int) []float64 {
	return []float64{0.5, 0.25, 0.125, 0.75, 1}[:n]
}

// at: a point.
func at(t int64, v float64) api.Sample {
	return api.Sample{T: t, V: v}
}

// window: a window whose points have times and values by turns.
func window(from, to, now int64, tv ...float64) api.Window {
	w := api.Window{From: from, To: to, Now: now}
	for i := 0; i < len(tv); i += 2 {
		w.Points = append(w.Points, at(int64(tv[i]), tv[i+1]))
	}
	return w
}

// even: a window as those of the chapter's examples: a point each 15 seconds, up to a minute with four of them.
func even(vs ...float64) api.Window {
	w := api.Window{To: max(60000, 15000*int64(len(vs))), Now: 60000}
	for i, v := range vs {
		w.Points = append(w.Points, at(15000*int64(i+1), v))
	}
	return w
}

// copied: the window with points of its own.
func copied(w api.Window) api.Window {
	w.Points = slices.Clone(w.Points)
	return w
}

// moved: the window with all its times greater by one number.
func moved(w api.Window, by int64) api.Window {
	w = copied(w)
	w.From, w.To, w.Now = w.From+by, w.To+by, w.Now+by
	for i := range w.Points {
		w.Points[i].T += by
	}
	return w
}

// special: the floats at which things end, of both signs.
func special() []float64 {
	out := []float64{nan, math.Float64frombits(0xFFF0000000000001)}
	for _, v := range []float64{0, least, 2 * least, math.Float64frombits(1<<52 - 1), math.Float64frombits(1 << 52), 1e-300, 0.001, 0.1, 0.5, math.Nextafter(1, 0), 1, math.Nextafter(1, 2), 1.5, 2, 3, 10, 1000, 1<<53 - 1, 1 << 53, 1<<53 + 2, 1e18, 1e100, 0x1p1023, greatest, inf} {
		out = append(out, v, -v)
	}
	return append(out, minus)
}

// a chance makes things that look random, the same ones in each run.
type chance struct{ dice *rand.Rand }

func newChance(seed uint64) chance {
	return chance{rand.New(rand.NewPCG(20, seed))}
}

func pick[T any](c chance, l []T) T {
	return l[c.dice.IntN(len(l))]
}

// anyFloat: any finite float, each exponent as often as another, of either sign.
func (c chance) anyFloat() float64 {
	for {
		if v := math.Float64frombits(c.dice.Uint64()); finite(v) {
			return v
		}
	}
}

// value: the next value of a series of that form, behind v.
func (c chance) value(form int, v float64) float64 {
	switch form {
	case 0: // a counter
		return v + float64(c.dice.IntN(20))
	case 1: // one that begins anew now and then
		if c.dice.IntN(3) == 0 {
			return float64(c.dice.IntN(3))
		}
		return v + c.dice.Float64()*10
	case 2: // few numbers, often the same
		return float64(c.dice.IntN(4) - 1)
	case 3:
		return pick(c, special())
	case 4:
		return c.anyFloat()
	case 5:
		return pick(c, []float64{nan, nan, 0, minus, 1, 2, inf, -inf})
	case 6: // a counter that begins far below or above 0
		return v + 0.1
	}
	return c.dice.NormFloat64() * 1000
}

const valueForms = 8

// step: how far it is to the next point, for a form of steps.
func (c chance) step(form int) int64 {
	switch form {
	case 0:
		return 15000
	case 1:
		return 1 + c.dice.Int64N(30000)
	case 2:
		return 1 + c.dice.Int64N(1<<c.dice.IntN(46))
	case 3:
		return 1
	case 4:
		return 100000
	}
	return 60000 + c.dice.Int64N(3)
}

const stepForms = 6

// points: up to that many of them.
func (c chance) points(most int) []api.Sample {
	values, steps := c.dice.IntN(valueForms), c.dice.IntN(stepForms)
	t, v := pick(c, []int64{0, 1, -60000, 1 << 40, -1 << 50, c.dice.Int64N(1<<51) - 1<<50}), float64(c.dice.IntN(9))*float64(c.dice.IntN(100))
	if values == 6 {
		v = c.dice.NormFloat64() * 10
	}
	var ps []api.Sample
	for range c.dice.IntN(most + 1) {
		v, t = c.value(values, v), t+c.step(steps)
		ps = append(ps, at(t, v))
	}
	return ps
}

// gap: how far an end of the window is from its points, which are a step apart: often near the edges of what Extrapolate asks.
func (c chance) gap(step int64) int64 {
	eleven := step / 10 * 11
	return pick(c, []int64{1, 2, step / 2, step - 1, step, step + 1, eleven - 1, eleven, eleven + 1, eleven + 2, 2 * step, 100 * step, 1 + c.dice.Int64N(2*step+1)})
}

// window: a sound one of up to that many points.
func (c chance) window(most int) api.Window {
	w := api.Window{Points: c.points(most)}
	if n := len(w.Points); n > 0 {
		step := int64(1000)
		if n > 1 {
			step = (w.Points[n-1].T - w.Points[0].T) / int64(n-1)
		}
		w.From, w.To = w.Points[0].T-max(1, c.gap(step)), w.Points[n-1].T+max(0, c.gap(step)-1)
	}
	w.Now = pick(c, []int64{w.To, w.To, w.To + 60000, w.From, 0, bound, -bound})
	return w
}

// numbers: two of them, for the functions that take some.
func (c chance) numbers() []float64 {
	if c.dice.IntN(3) == 0 {
		return []float64{pick(c, special()), pick(c, special())}
	}
	if c.dice.IntN(3) == 0 {
		return []float64{c.dice.NormFloat64() * 1000, c.dice.Float64()}
	}
	return []float64{c.dice.Float64(), c.dice.Float64()}
}
