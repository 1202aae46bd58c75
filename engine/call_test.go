package engine_test

import (
	"fmt"
	"slices"
	"strings"
	"testing"

	"weir/api"
	"weir/check"
	"weir/over"
)

// P24.1: time is the time of evaluation in seconds, in a subquery too; it doesn't follow offset and @.
func TestTime(t *testing.T) {
	verify(t, example(),
		ask{`time()`, 0, `scalar at 0: 0`},
		ask{`time()`, 1234, `scalar at 1234: 1.234`},
		ask{`time()`, -1, `scalar at -1: -0.001`},
		ask{`time()`, 299999, `scalar at 299999: 299.999`},
		ask{`vector(time())[2m:1m] offset 1m`, 180000, `matrix at 0: {} 60000:60 120000:120`},
		ask{`vector(time())[1m:1m] @ 60`, 180000, `matrix at 0: {} 60000:60`},
		ask{`sum(up offset 1m) + time()`, 60000, `vector at 60000: {} 71`},
	)
	verifyRange(t, nil, tour{`time() * 2`, 1000, 3000, 1000, `matrix at 0: {} 1000:2 2000:4 3000:6`})
}

// P24.1: timestamp of a selector tells the samples' own times, of any other node the time of evaluation; without the name.
func TestTimestamp(t *testing.T) {
	s := loaded(`x{a="1"} 0:1 50001:2`, `x{a="2"} 10000:5 60000:_`, `y{a="1"} 20000:3`, `A 1:1`)
	verify(t, s,
		ask{`timestamp(x)`, 59999, `vector at 59999: {a="1"} 50.001; {a="2"} 10`},
		ask{`timestamp(x)`, 60000, `vector at 60000: {a="1"} 50.001`},
		ask{`timestamp((x))`, 60000, `vector at 60000: {a="1"} 50.001`},
		ask{`timestamp(x)`, 400000, `vector at 400000:`},
		ask{`timestamp(x offset 10s)`, 59999, `vector at 59999: {a="1"} 0; {a="2"} 10`},
		ask{`timestamp(x offset -10s)`, 49999, `vector at 49999: {a="1"} 50.001; {a="2"} 10`},
		ask{`timestamp(x @ 30)`, 300000, `vector at 300000: {a="1"} 0; {a="2"} 10`},
		ask{`timestamp(+x)`, 59999, `vector at 59999: {a="1"} 59.999; {a="2"} 59.999`},
		ask{`timestamp(-x)`, 59999, `vector at 59999: {a="1"} 59.999; {a="2"} 59.999`},
		ask{`timestamp(x + 0)`, 59999, `vector at 59999: {a="1"} 59.999; {a="2"} 59.999`},
		ask{`timestamp(x > 2)`, 55000, `vector at 55000: {a="2"} 55`},
		ask{`timestamp(last_over_time(x[1m]))`, 59999, `vector at 59999: {a="1"} 59.999; {a="2"} 59.999`},
		ask{`timestamp(x offset 10s + 0)`, 59999, `vector at 59999: {a="1"} 59.999; {a="2"} 59.999`},
		ask{`timestamp(vector(1))`, -7, `vector at -7: {} -0.007`},
		ask{`timestamp(timestamp(x))`, 59999, `vector at 59999: {a="1"} 59.999; {a="2"} 59.999`},
		ask{`timestamp(none)`, 0, `vector at 0:`},
		ask{`timestamp({a!=""})`, 30000, `error 6`},
		ask{`timestamp(+{a!=""})`, 30000, `error 6`},
		ask{`timestamp({a!=""})`, 9999, `vector at 9999: {a="1"} 0`},
		ask{`timestamp({__name__=~"A|x"})`, 30000, `vector at 30000: {} 0.001; {a="1"} 0; {a="2"} 10`},
		ask{`timestamp({__name__=~"A|x"} + on(a) group_left() x)`, 30000, `vector at 30000: {a="1"} 30; {a="2"} 30`},
	)
}

// P24.1: absent answers one element where its node has none; its labels are those that a selector's matchers ask for, of all other nodes none.
func TestAbsent(t *testing.T) {
	s := loaded(`up{job="a"} 0:1`)
	verify(t, s,
		ask{`absent(up)`, 0, `vector at 0:`},
		ask{`absent(up)`, -1, `vector at -1: {} 1`},
		ask{`absent(up{job="a"})`, 300000, `vector at 300000: {job="a"} 1`},
		ask{`absent(up{job="b"})`, 0, `vector at 0: {job="b"} 1`},
		ask{`absent(up{job="b",env="x",a=~"1",b!="2"})`, 0, `vector at 0: {env="x", job="b"} 1`},
		ask{`absent(up{job="b",job="c",env="x"})`, 0, `vector at 0: {env="x"} 1`},
		ask{`absent(up{job="c",job=~"d"})`, 0, `vector at 0: {job="c"} 1`},
		ask{`absent({__name__="down",job="a"})`, 0, `vector at 0: {job="a"} 1`},
		ask{`absent((up{job="b"} offset 1m))`, 0, `vector at 0: {job="b"} 1`},
		ask{`absent(+up{job="b"})`, 0, `vector at 0: {} 1`},
		ask{`absent(sum(up{job="b"}))`, 0, `vector at 0: {} 1`},
		ask{`absent(up{job="b"} > 1)`, 0, `vector at 0: {} 1`},
		ask{`absent(up > 1)`, 0, `vector at 0: {} 1`},
		ask{`absent(up > 0)`, 0, `vector at 0:`},
		ask{`absent(absent(up{job="b"}))`, 0, `vector at 0:`},
		ask{`absent(absent(up))`, 0, `vector at 0: {} 1`},
		ask{`absent(vector(nan))`, 0, `vector at 0:`},
		ask{`absent(last_over_time(up{job="b"}[1m]))`, 0, `vector at 0: {} 1`},
	)
}

// P24.1: absent_over_time answers one element where its windows hold no points; its labels are those that a range's selector asks for, of a subquery none.
func TestAbsentOverTime(t *testing.T) {
	s := loaded(`up{job="a"} 0:1 60000:_`)
	verify(t, s,
		ask{`absent_over_time(up[1m])`, 0, `vector at 0:`},
		ask{`absent_over_time(up[1m])`, 59999, `vector at 59999:`},
		ask{`absent_over_time(up[1m])`, 60000, `vector at 60000: {} 1`},
		ask{`absent_over_time(up{job="a"}[1m])`, 60000, `vector at 60000: {job="a"} 1`},
		ask{`absent_over_time(up{job="a"}[1m1ms])`, 60000, `vector at 60000:`},
		ask{`absent_over_time(up{job="b",x="",y="z"}[1m] offset 1m)`, 60000, `vector at 60000: {job="b", y="z"} 1`},
		ask{`absent_over_time({__name__="down",job=~"a"}[1m])`, 0, `vector at 0: {} 1`},
		ask{`absent_over_time(up{job="b"}[1m:1m])`, 0, `vector at 0: {} 1`},
		ask{`absent_over_time(up[1m:1m])`, 0, `vector at 0:`},
		ask{`absent_over_time(up[59s:1m])`, 59999, `vector at 59999: {} 1`},
		ask{`absent_over_time(vector(1)[1m:1m])`, 0, `vector at 0:`},
		ask{`absent_over_time(vector(1)[1m:2m])`, -60000, `vector at -60000: {} 1`},
	)
}

// P24.1: a function of windows is over's, of each series by itself with the window's ends and the time of evaluation, and its scalars in their order; its elements lose the name.
func TestFunctionsOfWindows(t *testing.T) {
	s := loaded(`x{a="1"} 15000:1 30000:2 45000:3 60000:4`, `x{a="2"} 60000:5`, `x{a="3"} 0:1 70000:2`)
	verify(t, s,
		ask{`rate(x[1m])`, 60000, `vector at 60000: {a="1"} 0.06666666666666665`},
		ask{`increase(x[1m])`, 60000, `vector at 60000: {a="1"} 4`},
		ask{`increase(x[1m] offset 10s)`, 70000, `vector at 70000: {a="1"} 4`},
		ask{`increase(x[1m])`, 70000, `vector at 70000: {a="1"} 4`},
		ask{`delta(x[2m])`, 75000, `vector at 75000: {a="1"} 4.5; {a="3"} 1.7142857142857142`},
		ask{`count_over_time(x[1m])`, 60000, `vector at 60000: {a="1"} 4; {a="2"} 1`},
		ask{`sum_over_time(x[45s])`, 60000, `vector at 60000: {a="1"} 9; {a="2"} 5`},
		ask{`quantile_over_time(0.25, x[1m])`, 60000, `vector at 60000: {a="1"} 1.75; {a="2"} 5`},
		ask{`quantile_over_time(time() / 100, x[1m])`, 60000, `vector at 60000: {a="1"} 2.8; {a="2"} 5`},
		ask{`predict_linear(x[1m], 15)`, 60000, `vector at 60000: {a="1"} 5`},
		ask{`predict_linear(x[1m] offset 15s, 0)`, 75000, `vector at 75000: {a="1"} 5`},
		ask{`predict_linear(x[1m] @ 60, 0)`, 90000, `vector at 90000: {a="1"} 6`},
		ask{`double_exponential_smoothing(x[1m], 0.5, 0.5)`, 60000, `vector at 60000: {a="1"} 4`},
		ask{`last_over_time(x[1m])`, 60000, `vector at 60000: x{a="1"} 4; x{a="2"} 5`},
		ask{`first_over_time(x[1m])`, 60000, `vector at 60000: x{a="1"} 1; x{a="2"} 5`},
		ask{`rate(x[1m])`, 0, `vector at 0:`},
		ask{`count_over_time(none[1m])`, 0, `vector at 0:`},
		ask{`count_over_time(x[2m:30s])`, 60000, `vector at 60000: {a="1"} 2; {a="2"} 1; {a="3"} 3`},
		ask{`last_over_time(x[2m:30s])`, 60000, `vector at 60000: x{a="1"} 4; x{a="2"} 5; x{a="3"} 1`},
		ask{`max_over_time((-x)[2m:30s])`, 60000, `vector at 60000: {a="1"} -2; {a="2"} -5; {a="3"} -1`},
		ask{`idelta(x[2m:30s])`, 60000, `vector at 60000: {a="1"} 2; {a="3"} 0`},
	)
	unlike := loaded(`x{a="1"} 0:1 1:2`, `y{a="1"} 0:3`)
	verify(t, unlike,
		ask{`last_over_time({a="1"}[1m])`, 1, `vector at 1: x{a="1"} 2; y{a="1"} 3`},
		ask{`first_over_time({a="1"}[1m])`, 1, `vector at 1: x{a="1"} 1; y{a="1"} 3`},
		ask{`max_over_time({a="1"}[1m])`, 1, `error 6`},
		ask{`max_over_time({a="1"}[1m:1ms])`, 1, `error 6`},
		ask{`rate({a="1"}[1m])`, 1, `vector at 1: {a="1"} 0.025`},
		ask{`last_over_time((-{a="1"})[1m:1ms])`, 1, `error 6`},
	)
	behind := loaded(`b{A="2"} 0:1`, `a{A="1"} 0:2`, `c 0:3`)
	verify(t, behind,
		ask{`min_over_time({__name__!=""}[1m])`, 0, `vector at 0: {} 3; {A="1"} 2; {A="2"} 1`},
		ask{`min_over_time({__name__!=""}[1m:1m])`, 0, `vector at 0: {} 3; {A="1"} 2; {A="2"} 1`},
	)
}

// P24.1: each function of windows answers by over what over answers of its window.
func TestAllFunctionsOfWindows(t *testing.T) {
	s := loaded(`x 0:1 15000:2 30000:1 45000:5 60000:7`)
	w := api.Window{From: 0, To: 60000, Now: 90000, Points: series(`x 15000:2 30000:1 45000:5 60000:7`).Points}
	seen := 0
	for _, name := range check.Funcs() {
		if !over.Known(name) {
			continue
		}
		seen++
		sig, _ := check.Func(name)
		args, numbers := []string{}, []float64{}
		for _, kind := range sig.Args {
			if kind == api.ValMatrix {
				args = append(args, `x[1m] offset 30s`)
				continue
			}
			v := 0.25 + float64(len(numbers))/2
			args, numbers = append(args, number(v)), append(numbers, v)
		}
		want, ok := over.Call(name, w, numbers)
		if !ok {
			t.Errorf("%s answers nothing", name)
		}
		set := map[bool]string{true: "x", false: "{}"}[slices.Contains([]string{"first_over_time", "last_over_time"}, name)]
		verify(t, s, ask{name + "(" + strings.Join(args, ", ") + ")", 90000, fmt.Sprintf("vector at 90000: %s %s", set, number(want))})
	}
	if seen != 23 {
		t.Errorf("%d functions of windows", seen)
	}
}

// P24.1: all other functions are fns', with the time of evaluation; those of the calendar without an argument are as of vector(time()).
func TestOtherFunctions(t *testing.T) {
	s := loaded(`x{a="1"} 0:-2.5`, `x{a="2"} 0:7`, `h{le="1"} 0:2`, `h{le="2"} 0:4`, `h{le="+Inf"} 0:4`)
	const noon = 951825600000 // 2000-02-29T12:00:00Z
	verify(t, s,
		ask{`abs(x)`, 0, `vector at 0: {a="1"} 2.5; {a="2"} 7`},
		ask{`round(x)`, 0, `vector at 0: {a="1"} -2; {a="2"} 7`},
		ask{`round(x, 5)`, 0, `vector at 0: {a="1"} 0; {a="2"} 5`},
		ask{`clamp(x, 0, 3)`, 0, `vector at 0: {a="1"} 0; {a="2"} 3`},
		ask{`clamp(x, 3, 0)`, 0, `vector at 0:`},
		ask{`clamp_max(x, time())`, 3000, `vector at 3000: {a="1"} -2.5; {a="2"} 3`},
		ask{`pi()`, 0, `scalar at 0: 3.141592653589793`},
		ask{`scalar(x)`, 0, `scalar at 0: NaN`},
		ask{`scalar(x{a="2"})`, 0, `scalar at 0: 7`},
		ask{`vector(scalar(x))`, 0, `vector at 0: {} NaN`},
		ask{`histogram_quantile(0.5, h)`, 0, `vector at 0: {} 1`},
		ask{`label_replace(x, "b", "$1!", "a", "(1)")`, 0, `vector at 0: x{a="1", b="1!"} -2.5; x{a="2"} 7`},
		ask{`label_replace(x, "a", "", "a", ".*")`, 0, `error 6`},
		ask{`label_join(x, "b", "-", "a", "__name__")`, 0, `vector at 0: x{a="1", b="1-x"} -2.5; x{a="2", b="2-x"} 7`},
		ask{`label_join(x, "b", "-")`, 0, `vector at 0: x{a="1"} -2.5; x{a="2"} 7`},
		ask{`label_join(x, "a", "-")`, 0, `error 6`},
		ask{`hour()`, noon, `vector at 951825600000: {} 12`},
		ask{`day_of_month()`, noon, `vector at 951825600000: {} 29`},
		ask{`day_of_week()`, noon, `vector at 951825600000: {} 2`},
		ask{`day_of_year()`, noon, `vector at 951825600000: {} 60`},
		ask{`days_in_month()`, noon, `vector at 951825600000: {} 29`},
		ask{`minute()`, noon + 59999, `vector at 951825659999: {} 0`},
		ask{`minute()`, noon + 60000, `vector at 951825660000: {} 1`},
		ask{`month()`, noon, `vector at 951825600000: {} 2`},
		ask{`year()`, noon, `vector at 951825600000: {} 2000`},
		ask{`year()`, -1, `vector at -1: {} 1969`},
		ask{`year(x)`, 0, `vector at 0: {a="1"} 1969; {a="2"} 1970`},
		ask{`minute()[2m:1m]`, 120000, `matrix at 0: {} 60000:1 120000:2`},
		ask{`hour() + on() group_right() x`, 7200000, `vector at 7200000:`},
		ask{`hour(vector(time()))`, noon, `vector at 951825600000: {} 12`},
		ask{`abs({a!=""} or label_replace(x, "__name__", "y", "", ".*"))`, 0, `error 145`},
		ask{`abs(x or label_replace(x, "__name__", "y", "a", ".*"))`, 0, `vector at 0: {a="1"} 2.5; {a="2"} 7`},
		ask{`abs(label_replace(x{a="2"}, "__name__", "y", "a", ".*") or ignoring(a) x)`, 0, `vector at 0: {a="2"} 7`},
		ask{`label_replace(vector(1), "b", "` + strings.Repeat("x", 8192) + `", "a", ".*")`, 0, `vector at 0: {b="` + strings.Repeat("x", 8192) + `"} 1`},
		ask{`label_replace(vector(1), "b", "` + strings.Repeat("x", 8193) + `", "a", ".*")`, 0, `error 1`},
	)
}
