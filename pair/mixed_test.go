package pair_test

import (
	"math"
	"testing"

	"weir/api"
	"weir/pair"
)

// P21.2: the chapter's examples, and such as tell the sides, the filters and the names apart.
func TestMixedExamples(t *testing.T) {
	const up = `up{a="1"} 2; up{a="2"} 3`
	for _, c := range []struct {
		op, v     string
		x         float64
		left, yes bool
		want      string
	}{
		{"+", up, 10, false, false, `{a="1"} 12; {a="2"} 13`},
		{"-", `up{a="1"} 2`, 10, true, false, `{a="1"} 8`},
		{">", up, 2.5, false, false, `up{a="2"} 3`},
		{">", up, 2.5, true, false, `up{a="1"} 2`},
		{">", `up{a="1"} 2`, 2.5, false, true, `{a="1"} 0`},
		{"-", `up{a="1"} 2`, 10, false, true, `{a="1"} -8`},
		{"/", up, 6, true, true, `{a="1"} 3; {a="2"} 2`},
		{"/", up, 6, false, true, `{a="1"} 0.3333333333333333; {a="2"} 0.5`},
		{"^", up, 2, true, false, `{a="1"} 4; {a="2"} 8`},
		{"^", up, 2, false, false, `{a="1"} 4; {a="2"} 9`},
		{"%", up, 5, true, false, `{a="1"} 1; {a="2"} 2`},
		{"%", up, 2, false, false, `{a="1"} 0; {a="2"} 1`},
		{"*", up, -2, true, true, `{a="1"} -4; {a="2"} -6`},
		{"==", up, 3, false, false, `up{a="2"} 3`},
		{"==", up, 3, true, true, `{a="1"} 0; {a="2"} 1`},
		{"!=", up, 3, true, false, `up{a="1"} 2`},
		{"<", up, 2.5, true, true, `{a="1"} 0; {a="2"} 1`},
		{"<=", up, 3, false, false, up},
		{"<=", up, 3, true, false, `up{a="2"} 3`},
		{">=", up, 3, true, true, `{a="1"} 1; {a="2"} 1`},
		{">=", up, 9, false, false, ""},
		{"==", `up 0`, minus, false, false, `up 0`},
		{"==", `up -0`, 0, true, false, `up -0`},
		{"!=", `up NaN`, nan, true, false, `up NaN`},
		{"==", `up NaN`, nan, true, true, `{} 0`},
		{"+", `{} 1; {b="2"} 2; {A="1"} 3`, 1, false, false, `{} 2; {A="1"} 4; {b="2"} 3`},
		{"+", `z{A="1"} 1; a{a="1"} 2; {_="1"} 3; {a="2",b="1"} 4`, 1, false, true, `{A="1"} 2; {_="1"} 4; {a="1"} 3; {a="2",b="1"} 5`},
		{"*", "", 3, false, false, ""},
	} {
		got, e := pair.Mixed(c.op, vec(c.v), c.x, c.left, c.yes)
		verify(t, got, e, vec(c.want), 0, "Mixed", c.op, c.v, c.x, c.left, c.yes)
	}
}

// P21.2: elements whose label sets fall together once the name is gone; a filter leaves them as they are.
func TestMixedDup(t *testing.T) {
	twice := []string{`up 1; down 2`, `up 1; {} 2`, `up{a="1"} 1; down{a="1"} 2; up{b="1"} 3`, `{A="1",a="1"} 1; {b="1"} 2; {A="1",a="1",__name__="x"} 3`, `up NaN; down NaN`, `up 5; down 6`}
	for _, text := range twice {
		for _, left := range []bool{false, true} {
			for _, op := range arithmetics() {
				for _, yes := range []bool{false, true} {
					got, e := pair.Mixed(op, vec(text), 2, left, yes)
					verify(t, got, e, nil, api.ErrDup, "Mixed", op, text, left, yes)
				}
			}
			for _, op := range comparisons() {
				got, e := pair.Mixed(op, vec(text), 2, left, true)
				verify(t, got, e, nil, api.ErrDup, "Mixed", op, text, left)
				if e := checkMixed(t, op, vec(text), 2, left, false); e != 0 {
					t.Errorf("a filter of %s: %d", text, e)
				}
			}
		}
		got, e := pair.Negate(vec(text))
		verify(t, got, e, nil, api.ErrDup, "Negate", text)
	}
	got, e := pair.Mixed("<", vec(`up 1; down 1; {} 1; up{a="1"} 3`), 2, false, false)
	verify(t, got, e, vec(`{} 1; down 1; up 1`), 0, "a filter that lets three through")
}

// P21.2 and P21.4: vectors that aren't sound, in each way; ErrVector comes ahead of ErrKind and ErrDup.
func TestMixedNotSound(t *testing.T) {
	for _, base := range []string{"", `up 1`, `up 1; down 2; {a="1"} 3`} {
		for _, v := range spoilt(vec(base)) {
			for _, op := range append(operators(), "", "?", "AND") {
				for i := range 4 {
					got, e := pair.Mixed(op, v, 1, i%2 == 0, i/2 == 0)
					verify(t, got, e, nil, api.ErrVector, "Mixed", op, told(v))
				}
			}
			got, e := pair.Negate(v)
			verify(t, got, e, nil, api.ErrVector, "Negate", told(v))
		}
	}
}

// P21.2: operators that are none between numbers; ErrKind comes ahead of ErrDup, and for no elements too.
func TestMixedKind(t *testing.T) {
	for _, op := range append(wrongOperators(), setOperators()...) {
		for _, text := range []string{"", `up 1`, `up 1; down 2`} {
			for i := range 4 {
				got, e := pair.Mixed(op, vec(text), 1, i%2 == 0, i/2 == 0)
				verify(t, got, e, nil, api.ErrKind, "Mixed", op[:min(9, len(op))], text)
			}
		}
	}
}

// P21.2: all floats at which things end, on both sides, with each operator and both values of left and of yes.
func TestMixedValues(t *testing.T) {
	for _, a := range special() {
		v := []api.Elem{{Labels: set("__name__", "up", "a", "1"), V: a}}
		for _, x := range special() {
			for _, op := range operators()[:12] {
				for i := range 4 {
					checkMixed(t, op, v, x, i%2 == 0, i/2 == 0)
				}
			}
		}
	}
}

// P21.4: each sign turned, noughts and NaN too.
func TestNegateExamples(t *testing.T) {
	for _, c := range [][2]string{
		{`up{a="1"} 0`, `{a="1"} -0`}, {`up -0`, `{} 0`}, {`{a="1"} 5`, `{a="1"} -5`}, {`{a="1"} NaN`, `{a="1"} NaN`}, {`up +Inf; {b="1"} -Inf`, `{} -Inf; {b="1"} +Inf`},
		{`z{A="1"} 1; a{a="1"} 2; {_="1"} -3`, `{A="1"} -1; {_="1"} 3; {a="1"} -2`}, {"", ""}, {`{} 1`, `{} -1`},
	} {
		got, e := pair.Negate(vec(c[0]))
		verify(t, got, e, vec(c[1]), 0, "Negate", c[0])
	}
	for _, x := range special() {
		got, e := pair.Negate([]api.Elem{{V: x}})
		verify(t, got, e, []api.Elem{{V: math.Copysign(x, map[bool]float64{false: -1, true: 1}[math.Signbit(x)])}}, 0, "Negate", x)
	}
}

// sets: label sets with which names, and signs ahead of the name and behind it, play together.
func sets() [][]api.Label {
	return [][]api.Label{nil, set("__name__", "up"), set("__name__", "down"), set("a", "1"), set("__name__", "up", "a", "1"), set("A", "1", "__name__", "up"), set("A", "1"), set("a", "1", "b", "1"), set("__name__", "up", "a", "2")}
}

// vectors: all vectors of at most that many of those sets, in one order each.
func vectors(most int) [][]api.Elem {
	all := [][]api.Elem{nil}
	for i, ls := range sets() {
		for _, v := range all {
			if len(v) < most {
				all = append(all, append(v[:len(v):len(v)], api.Elem{Labels: ls, V: float64(1 + i%3)}))
			}
		}
	}
	return all
}

// P21.2, P21.4 and P21.5: all small vectors, in every order, by the words.
func TestMixedSmall(t *testing.T) {
	seen := map[api.Errno]int{}
	for _, base := range vectors(4) {
		for _, v := range permuted(base) {
			for _, op := range []string{"-", "<", "==", "or"} {
				for i := range 4 {
					seen[checkMixed(t, op, v, 2, i%2 == 0, i/2 == 0)]++
				}
			}
			seen[checkNegate(t, v)]++
		}
	}
	if seen[0] < 10000 || seen[api.ErrDup] < 10000 {
		t.Errorf("the answers were %v", seen)
	}
}

// P21.2, P21.4 and P21.5: vectors by chance, by the words.
func TestMixedByChance(t *testing.T) {
	c, seen := newChance(3), map[api.Errno]int{}
	for i := range 20000 {
		slips := i%2 == 0
		v := c.vector(6, slips)
		seen[checkMixed(t, c.op(slips), v, c.value(), c.yes(), c.yes())]++
		seen[checkNegate(t, v)]++
	}
	for _, e := range []api.Errno{0, api.ErrVector, api.ErrKind, api.ErrDup} {
		if seen[e] < 500 {
			t.Errorf("the answers were %v", seen)
		}
	}
}
