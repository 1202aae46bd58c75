package engine_test

import (
	"fmt"
	"strings"
	"testing"

	"weir/api"
)

// P24.1: a number's lexeme counts what num reads; a duration's its milliseconds by 1000, one division of floats.
func TestNumbers(t *testing.T) {
	for text, want := range map[string]string{
		"0": "0", "1.5": "1.5", ".5": "0.5", "5.": "5", "1e3": "1000", "0x1F": "31", "1E-3": "0.001", "inf": "+Inf", "Inf": "+Inf", "nan": "NaN", "NaN": "NaN",
		"0.1": "0.1", "9007199254740993": "9.007199254740992e+15", "1e-400": "0", "4.9e-324": "5e-324",
		"5m": "300", "1ms": "0.001", "3ms": "0.003", "0s": "0", "1h30m": "5400", "10000y": "3.1536e+11", "1y2w3d4h5m6s7ms": "3.3019506007e+07", "299999ms": "299.999",
	} {
		verify(t, example(), ask{text, 5, "scalar at 5: " + want}, ask{"-" + text, 5, "scalar at 5: " + opposite(want)}, ask{"vector(" + text + ")", 5, "vector at 5: {} " + want})
	}
}

func opposite(number string) string {
	switch {
	case number == "NaN":
		return number
	case number[0] == '+':
		return "-" + number[1:]
	}
	return "-" + number
}

// P24.1: a selector sees, of each series that its name and its matchers choose, the last sample, if it is younger than the lookback and not stale; with the name.
func TestSelectors(t *testing.T) {
	s := loaded(`up{job="a"} 0:1 1000:2 2000:_ 3000:nan`, `up{job="b"} 1000:-0`, `up 500:7`, `a:b 0:4`, `{job="a"} 0:9`, `up{job="c"}`)
	verify(t, s,
		ask{`up`, -1, `vector at -1:`},
		ask{`up`, 0, `vector at 0: up{job="a"} 1`},
		ask{`up`, 999, `vector at 999: up 7; up{job="a"} 1`},
		ask{`up`, 1000, `vector at 1000: up 7; up{job="a"} 2; up{job="b"} -0`},
		ask{`up`, 1999, `vector at 1999: up 7; up{job="a"} 2; up{job="b"} -0`},
		ask{`up`, 2000, `vector at 2000: up 7; up{job="b"} -0`},
		ask{`up`, 2999, `vector at 2999: up 7; up{job="b"} -0`},
		ask{`up`, 3000, `vector at 3000: up 7; up{job="a"} NaN; up{job="b"} -0`},
		ask{`up`, 300499, `vector at 300499: up 7; up{job="a"} NaN; up{job="b"} -0`},
		ask{`up`, 300500, `vector at 300500: up{job="a"} NaN; up{job="b"} -0`},
		ask{`up`, 302999, `vector at 302999: up{job="a"} NaN`},
		ask{`up`, 303000, `vector at 303000:`},
		ask{`up{job="a"}`, 0, `vector at 0: up{job="a"} 1`},
		ask{`up{job=""}`, 1000, `vector at 1000: up 7`},
		ask{`up{job!="a"}`, 1000, `vector at 1000: up 7; up{job="b"} -0`},
		ask{`up{job=~"a|b",job!~"b"}`, 1000, `vector at 1000: up{job="a"} 2`},
		ask{`up{job="a",job="b"}`, 1000, `vector at 1000:`},
		ask{`up{__name__=~"a.*"}`, 1000, `vector at 1000:`},
		ask{`up{__name__!="down",job="b"}`, 1000, `vector at 1000: up{job="b"} -0`},
		ask{`a:b`, 0, `vector at 0: a:b 4`},
		ask{`{job="a"}`, 0, `vector at 0: up{job="a"} 1; {job="a"} 9`},
		ask{`{__name__="",job="a"}`, 0, `vector at 0: {job="a"} 9`},
		ask{`{__name__="up"}`, 500, `vector at 500: up 7; up{job="a"} 1`},
		ask{`{__name__=~"u.|a:b"}`, 500, `vector at 500: a:b 4; up 7; up{job="a"} 1`},
		ask{`UP`, 500, `vector at 500:`},
	)
}

// P24.1: a range's window is open at the left and closed at the right; stale samples aren't in it, and they end nothing; a series without points is left out.
func TestWindows(t *testing.T) {
	s := loaded(`up{job="a"} 0:1 60000:2 60001:_ 120000:3`, `up{job="b"} 59999:10 700000:11`, `down 60000:5`, `up{job="c"}`)
	verify(t, s,
		ask{`up[1m]`, 60000, `matrix at 0: up{job="a"} 60000:2; up{job="b"} 59999:10`},
		ask{`up[1m1ms]`, 60000, `matrix at 0: up{job="a"} 0:1 60000:2; up{job="b"} 59999:10`},
		ask{`up[1m]`, 59999, `matrix at 0: up{job="a"} 0:1; up{job="b"} 59999:10`},
		ask{`up[1m]`, 59998, `matrix at 0: up{job="a"} 0:1`},
		ask{`up[1m]`, 120000, `matrix at 0: up{job="a"} 120000:3`},
		ask{`up[1m]`, 119999, `matrix at 0: up{job="a"} 60000:2`},
		ask{`up[1ms]`, 60000, `matrix at 0: up{job="a"} 60000:2`},
		ask{`up[1ms]`, 60001, `matrix at 0:`},
		ask{`up[10m]`, 660000, `matrix at 0: up{job="a"} 120000:3`},
		ask{`up[1h]`, 700000, `matrix at 0: up{job="a"} 0:1 60000:2 120000:3; up{job="b"} 59999:10 700000:11`},
		ask{`up{job!="a"}[1h] offset 1m`, 700000, `matrix at 0: up{job="b"} 59999:10`},
		ask{`{__name__=~".+"}[1m] @ 60`, 0, `matrix at 0: down 60000:5; up{job="a"} 60000:2; up{job="b"} 59999:10`},
		ask{`up[1m]`, -1, `matrix at 0:`},
		ask{`up[10000y]`, -1, `matrix at 0:`},
	)
}

// P24.1: a subquery's times are the multiples of its step above the window's beginning and up to its end, below 0 too, whatever the time of evaluation.
func TestSubqueryTimes(t *testing.T) {
	for _, c := range []struct {
		dur   string
		at    int64
		times []int64
	}{
		{"5m:2m", 600000, []int64{360000, 480000, 600000}},
		{"5m:2m", 599999, []int64{360000, 480000}},
		{"5m:2m", 659999, []int64{360000, 480000, 600000}},
		{"5m:2m", 660000, []int64{480000, 600000}},
		{"4m:2m", 600000, []int64{480000, 600000}},
		{"3m:", 180000, []int64{60000, 120000, 180000}},
		{"3m:", 180001, []int64{60000, 120000, 180000}},
		{"3m:", 179999, []int64{0, 60000, 120000}},
		{"59s999ms:", 60000, []int64{60000}},
		{"59s999ms:", 59999, nil},
		{"1ms:1ms", 7, []int64{7}},
		{"1ms:1ms", -7, []int64{-7}},
		{"3ms:1ms", 1, []int64{-1, 0, 1}},
		{"3ms:2ms", 1, []int64{0}},
		{"3ms:2ms", 0, []int64{-2, 0}},
		{"3ms:2ms", -1, []int64{-2}},
		{"3ms:2ms", -2, []int64{-4, -2}},
		{"5m:7m", 0, []int64{0}},
		{"5m:7m", -1, nil},
		{"5m:7m", -120000, nil},
		{"5m:7m", -120001, []int64{-420000}},
		{"5m:7m", 299999, []int64{0}},
		{"5m:7m", 300000, nil},
		{"1m:10000y", 59999, []int64{0}},
		{"1m:10000y", 60000, nil},
		{"1m:10000y", -1, nil},
		{"10000y:10000y", 0, []int64{0}},
		{"10000y:10000y", -1, []int64{-315360000000000}},
		{"10000y:5000y", 1, []int64{-157680000000000, 0}},
		{"1m:1m", 253402300799999, []int64{253402300740000}},
		{"1m:1m", -62167219200000, []int64{-62167219200000}},
	} {
		want := `matrix at 0:`
		for i, at := range c.times {
			if i == 0 {
				want += ` {}`
			}
			want += fmt.Sprintf(" %d:%s", at, number(float64(at)/1000))
		}
		verify(t, nil, ask{`vector(time())[` + c.dur + `]`, c.at, want})
	}
}

// P24.1: a subquery makes a series of each label set that is there at one of its times or more, with the names that X leaves; in canonical order; it may be moved in time.
func TestSubqueries(t *testing.T) {
	s := loaded(`x{a="2"} 0:1 60000:_`, `x{a="1"} 60000:2 120000:3`, `y 0:5`)
	verify(t, s,
		ask{`x[3m:1m]`, 120000, `matrix at 0: x{a="1"} 60000:2 120000:3; x{a="2"} 0:1`},
		ask{`x[2m:1m]`, 120000, `matrix at 0: x{a="1"} 60000:2 120000:3`},
		ask{`{__name__=~"[xy]"}[3m:1m]`, 120000, `matrix at 0: x{a="1"} 60000:2 120000:3; x{a="2"} 0:1; y 0:5 60000:5 120000:5`},
		ask{`(-x)[3m:1m]`, 120000, `matrix at 0: {a="1"} 60000:-2 120000:-3; {a="2"} 0:-1`},
		ask{`(x > 1)[3m:1m]`, 120000, `matrix at 0: x{a="1"} 60000:2 120000:3`},
		ask{`x[3m:1m] offset 1m`, 120000, `matrix at 0: x{a="1"} 60000:2; x{a="2"} 0:1`},
		ask{`x[3m:1m] offset -1m`, 0, `matrix at 0: x{a="1"} 60000:2; x{a="2"} 0:1`},
		ask{`x[1m:1m] @ 120`, 0, `matrix at 0: x{a="1"} 120000:3`},
		ask{`x[1m:1m] @ 60 offset -1m`, 0, `matrix at 0: x{a="1"} 120000:3`},
		ask{`(x offset 1m)[1m:1m] offset 1m`, 120000, `matrix at 0: x{a="2"} 60000:1`},
		ask{`max_over_time(x[2m:1m])[2m:1m]`, 120000, `matrix at 0: {a="1"} 60000:2 120000:3; {a="2"} 60000:1`},
		ask{`sum_over_time(count_over_time(x[2m:1m])[2m:1m])`, 120000, `vector at 120000: {a="1"} 3; {a="2"} 1`},
		ask{`count_values("v", x)[3m:1m]`, 120000, `matrix at 0: {v="1"} 0:1; {v="2"} 60000:1; {v="3"} 120000:1`},
		ask{`sum(y)[3m:1m]`, 120000, `matrix at 0: {} 0:5 60000:5 120000:5`},
		ask{`(y + on() group_left() (x{a="1"}))[3m:1m]`, 120000, `matrix at 0: {} 60000:7 120000:8`},
		ask{`x[1m:1m] + 1`, 120000, `error 140`},
		ask{`(x / on() vector(1))[3m:1m]`, 120000, `matrix at 0: {} 0:1 60000:2 120000:3`},
		ask{`(y / on() {__name__=~"[xy]"})[3m:1m]`, 120000, `error 210`},
	)
}

// P24.1: + leaves all as it is, names too; - turns a number's sign, that of 0 too, and a vector by pair.
func TestSigns(t *testing.T) {
	s := loaded(`x{a="1"} 0:0`, `x{a="2"} 0:-3`, `y{a="1"} 0:nan`)
	verify(t, s,
		ask{`+x`, 0, `vector at 0: x{a="1"} 0; x{a="2"} -3`},
		ask{`+ +x`, 0, `vector at 0: x{a="1"} 0; x{a="2"} -3`},
		ask{`-x`, 0, `vector at 0: {a="1"} -0; {a="2"} 3`},
		ask{`--x`, 0, `vector at 0: {a="1"} 0; {a="2"} -3`},
		ask{`-y`, 0, `vector at 0: {a="1"} NaN`},
		ask{`-none`, 0, `vector at 0:`},
		ask{`-0`, 0, `scalar at 0: -0`},
		ask{`- -0`, 0, `scalar at 0: 0`},
		ask{`+(-0)`, 0, `scalar at 0: -0`},
		ask{`-inf`, 0, `scalar at 0: -Inf`},
		ask{`+5m`, 0, `scalar at 0: 300`},
		ask{`-{__name__=~"[xy]"}`, 0, `error 6`},
		ask{`+{__name__=~"[xy]"}`, 0, `vector at 0: x{a="1"} 0; x{a="2"} -3; y{a="1"} NaN`},
	)
}

// P24.1: an operator between two numbers, a vector and a number in both orders, two vectors; with bool, matchings and labels brought in.
func TestOperators(t *testing.T) {
	s := loaded(`x{a="1"} 0:6`, `x{a="2"} 0:8`, `y{a="1"} 0:3`, `z{a="1",b="1"} 0:1`, `z{a="1",b="2"} 0:2`, `z{a="3",b="3"} 0:3`, `w{a="1",c="7"} 0:10`)
	verify(t, s,
		ask{`7 - 2`, 0, `scalar at 0: 5`},
		ask{`2 ^ 3 ^ 2`, 0, `scalar at 0: 512`},
		ask{`-7 % 3`, 0, `scalar at 0: -1`},
		ask{`1 / 0`, 0, `scalar at 0: +Inf`},
		ask{`2 > bool 1`, 0, `scalar at 0: 1`},
		ask{`1 > bool 2`, 0, `scalar at 0: 0`},
		ask{`nan == bool nan`, 0, `scalar at 0: 0`},
		ask{`x - 1`, 0, `vector at 0: {a="1"} 5; {a="2"} 7`},
		ask{`1 - x`, 0, `vector at 0: {a="1"} -5; {a="2"} -7`},
		ask{`x > 7`, 0, `vector at 0: x{a="2"} 8`},
		ask{`7 > x`, 0, `vector at 0: x{a="1"} 6`},
		ask{`x > bool 7`, 0, `vector at 0: {a="1"} 0; {a="2"} 1`},
		ask{`7 > bool x`, 0, `vector at 0: {a="1"} 1; {a="2"} 0`},
		ask{`{__name__=~"[xy]"} * 2`, 0, `error 6`},
		ask{`{__name__=~"[xy]"} > 5`, 0, `vector at 0: x{a="1"} 6; x{a="2"} 8`},
		ask{`x / y`, 0, `vector at 0: {a="1"} 2`},
		ask{`y / x`, 0, `vector at 0: {a="1"} 0.5`},
		ask{`x > y`, 0, `vector at 0: x{a="1"} 6`},
		ask{`y > x`, 0, `vector at 0:`},
		ask{`y > bool x`, 0, `vector at 0: {a="1"} 0`},
		ask{`z + on(a) w`, 0, `error 211`},
		ask{`w + on(a) z`, 0, `error 210`},
		ask{`z + on(a) group_left() w`, 0, `vector at 0: {a="1", b="1"} 11; {a="1", b="2"} 12`},
		ask{`z - on(a) group_left(c) w`, 0, `vector at 0: {a="1", b="1", c="7"} -9; {a="1", b="2", c="7"} -8`},
		ask{`w - ignoring(b, c) group_right(c) z`, 0, `vector at 0: {a="1", b="1", c="7"} 9; {a="1", b="2", c="7"} 8`},
		ask{`x and y`, 0, `vector at 0: x{a="1"} 6`},
		ask{`x unless y`, 0, `vector at 0: x{a="2"} 8`},
		ask{`y or x`, 0, `vector at 0: x{a="2"} 8; y{a="1"} 3`},
		ask{`x and on(a) z`, 0, `vector at 0: x{a="1"} 6`},
		ask{`x AND ON () z`, 0, `vector at 0: x{a="1"} 6; x{a="2"} 8`},
		ask{`x and none`, 0, `vector at 0:`},
		ask{`x unless none`, 0, `vector at 0: x{a="1"} 6; x{a="2"} 8`},
	)
}

// P24.1: an aggregation is gather's, by or without labels, with a number, a text or nothing as its parameter.
func TestAggregations(t *testing.T) {
	s := loaded(`x{a="1",b="x"} 0:3`, `x{a="1",b="y"} 0:4`, `x{a="2",b="x"} 0:5`, `y{a="2",b="y"} 0:5`)
	verify(t, s,
		ask{`sum({b!=""})`, 0, `vector at 0: {} 17`},
		ask{`sum by (a) ({b!=""})`, 0, `vector at 0: {a="1"} 7; {a="2"} 10`},
		ask{`sum without (a) ({b!=""})`, 0, `vector at 0: {b="x"} 8; {b="y"} 9`},
		ask{`max by (a, none) ({b!=""})`, 0, `vector at 0: {a="1"} 4; {a="2"} 5`},
		ask{`count by (__name__) ({b!=""})`, 0, `vector at 0: x 3; y 1`},
		ask{`group without () ({b!=""})`, 0, `vector at 0: {a="1", b="x"} 1; {a="1", b="y"} 1; {a="2", b="x"} 1; {a="2", b="y"} 1`},
		ask{`MIN(x)`, 0, `vector at 0: {} 3`},
		ask{`avg(x) by (b)`, 0, `vector at 0: {b="x"} 4; {b="y"} 4`},
		ask{`stddev(x{a="1"})`, 0, `vector at 0: {} 0.5`},
		ask{`stdvar(x{a="1"})`, 0, `vector at 0: {} 0.25`},
		ask{`topk(1, x)`, 0, `vector at 0: x{a="2", b="x"} 5`},
		ask{`bottomk(1 + 1, x)`, 0, `vector at 0: x{a="1", b="x"} 3; x{a="1", b="y"} 4`},
		ask{`topk by (a) (scalar(y) - 4, {b!=""})`, 0, `vector at 0: x{a="1", b="y"} 4; x{a="2", b="x"} 5`},
		ask{`quantile(0.5, x)`, 0, `vector at 0: {} 4`},
		ask{`quantile(time(), x)`, 1000, `vector at 1000: {} 5`},
		ask{`count_values("v", {b!=""})`, 0, `vector at 0: {v="3"} 1; {v="4"} 1; {v="5"} 2`},
		ask{`count_values without (b) ("a", x)`, 0, `vector at 0: {a="3"} 1; {a="4"} 1; {a="5"} 1`},
		ask{`sum(none)`, 0, `vector at 0:`},
		ask{`sum(sum by (a) (x)) + count(x)`, 0, `vector at 0: {} 15`},
	)
}

// dense: a series with so many points, the last one at 0.
func dense(n int) api.Series {
	s := series("dense")
	for k := range n {
		s.Points = append(s.Points, api.Sample{T: int64(k - n + 1), V: float64(k % 100)})
	}
	return s
}

// P24.1: kids are evaluated in their order, an aggregation's parameter ahead of what it is of, and the first error is the node's.
func TestOrderOfKids(t *testing.T) {
	s := load(api.Dataset{Series: append(data(`x{a="1"} 0:1`, `y{a="1"} 0:2`).Series, dense(99000))})
	const (
		dup       = `-{a="1"}`
		many      = `(vector(1) + on() {a="1"})`
		one       = `({a="1"} + on() vector(1))`
		expensive = `sum_over_time(count_over_time(dense[2m] @ 0)[6m:1m])`
	)
	text := map[string]string{dup: "error 6", many: "error 210", one: "error 211", expensive: "error 240"}
	for a, first := range text {
		for b := range text {
			for i, form := range []string{
				"A + B", "A and B", "A unless on() B", "A == bool B", "2 + A + B", "topk(scalar(A), B)", "sum(A) / B", "quantile by (a) (scalar(A) + 1, B)", "clamp(A, scalar(B), 1)", "clamp(x, scalar(A), scalar(B))",
				"round(A, scalar(B))", "quantile_over_time(scalar(A), B[1m:1m])", "predict_linear(A[1m:1m], scalar(B))", "histogram_quantile(scalar(A), B)", "double_exponential_smoothing(x[1m], scalar(A), scalar(B))",
			} {
				if i%5 > 0 && (a == expensive || b == expensive) || a == b {
					continue
				}
				query := strings.NewReplacer("A", "("+a+")", "B", "("+b+")").Replace(form)
				verify(t, s, ask{query, 0, first})
			}
		}
	}
	verify(t, s,
		ask{`-(` + many + `)`, 0, `error 210`},
		ask{`clamp(` + dup + `, scalar(` + many + `), 1)`, 0, `error 6`},
		ask{`label_replace(` + many + `, "a", "", "a", ".*")`, 0, `error 210`},
		ask{`timestamp(` + many + `)`, 0, `error 210`},
		ask{`absent(` + many + `)`, 0, `error 210`},
		ask{`absent_over_time((` + many + `)[1m:1m])`, 0, `error 210`},
		ask{`(` + many + `)[1m:1m]`, 0, `error 210`},
		ask{`sum(` + one + `)`, 0, `error 211`},
		ask{`vector(scalar(` + dup + `))`, 0, `error 6`},
		ask{`timestamp({a="1"}) + ` + many, 0, `error 6`},
		ask{`abs({a="1"}) + ` + many, 0, `error 6`},
		ask{`max_over_time({a="1"}[1m]) + ` + many, 0, `error 6`},
	)
}
