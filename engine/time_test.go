package engine_test

import (
	"fmt"
	"testing"

	"weir/api"
)

// steady: a series whose value tells the minute, from an hour ahead of 0 to an hour behind it.
func steady() string {
	text := `x{job="a"}`
	for k := -60; k <= 60; k++ {
		text += fmt.Sprintf(" %d:%d", k*60000, k)
	}
	return text
}

// P24.1: a selector looks at the time where its When puts it: no At, a number of seconds, an offset of either sign, in either order.
func TestWhen(t *testing.T) {
	s := loaded(steady())
	for _, c := range []struct {
		when string
		want int
	}{
		{``, 5},
		{`offset 0s`, 5}, {`offset -0s`, 5},
		{`offset 1m`, 4}, {`offset 1m1ms`, 3}, {`offset 59s999ms`, 4}, {`offset 1ms`, 4}, {`offset 10m`, -5}, {`offset 1h1m`, -56},
		{`offset -1m`, 6}, {`offset -1ms`, 5}, {`offset -59s999ms`, 5}, {`offset -30m`, 35},
		{`@ 0`, 0}, {`@ 60`, 1}, {`@ 59.999`, 0}, {`@ 59.9994`, 0}, {`@ 59.9995`, 1}, {`@ 1e2`, 1}, {`@ 0x78`, 2}, {`@ .6e2`, 1}, {`@ 0.0004`, 0}, {`@ 1800`, 30},
		{`@ 60 offset 2m`, -1}, {`offset 2m @ 60`, -1}, {`@ 60 offset -2m`, 3}, {`offset -2m @ 60`, 3}, {`@ 0 offset 1ms`, -1},
		{`@ start()`, 5}, {`@ end()`, 5}, {`@ start() offset 1m`, 4}, {`offset -1m @ end()`, 6},
	} {
		verify(t, s, ask{`x ` + c.when, 300000, fmt.Sprintf(`vector at 300000: x{job="a"} %d`, c.want)},
			ask{`x[1m] ` + c.when, 300000, toldWindow(c.want)})
	}
}

// toldWindow: the matrix of the one point of that value.
func toldWindow(k int) string { return fmt.Sprintf(`matrix at 0: x{job="a"} %d:%d`, k*60000, k) }

// P24.1: start and end of the base are both the time of an Instant, and the ends of a Range; neither changes inside a query, in subqueries neither.
func TestBase(t *testing.T) {
	s := loaded(steady())
	verify(t, s,
		ask{`last_over_time(x[1m:1m] @ 60)`, 300000, `vector at 300000: x{job="a"} 1`},
		ask{`last_over_time((x @ start())[1m:1m] @ 60)`, 300000, `vector at 300000: x{job="a"} 5`},
		ask{`last_over_time((x @ end())[1m:1m] @ 60)`, 300000, `vector at 300000: x{job="a"} 5`},
		ask{`last_over_time((x @ end() offset 1m)[1m:1m] offset 3m)`, 300000, `vector at 300000: x{job="a"} 4`},
		ask{`sum_over_time((x @ start())[3m:1m])`, 300000, `vector at 300000: {job="a"} 15`},
		ask{`last_over_time(last_over_time((x @ start())[1m:1m] @ 0)[1m:1m] @ 60)`, 300000, `vector at 300000: x{job="a"} 5`},
	)
	row := func(name string, values ...int) string {
		text := `matrix at 0: ` + name
		for k, v := range values {
			text += fmt.Sprintf(" %d:%d", k*60000, v)
		}
		return text
	}
	const x, bare = `x{job="a"}`, `{job="a"}`
	verifyRange(t, s,
		tour{`x`, 0, 120000, 60000, row(x, 0, 1, 2)},
		tour{`x @ start()`, 0, 120000, 60000, row(x, 0, 0, 0)},
		tour{`x @ end()`, 0, 120000, 60000, row(x, 2, 2, 2)},
		tour{`x @ end()`, 0, 179999, 60000, row(x, 2, 2, 2)},
		tour{`x @ end()`, 0, 119999, 60000, row(x, 1, 1)},
		tour{`x @ end() offset 5m`, 0, 120000, 60000, row(x, -3, -3, -3)},
		tour{`x offset -5m @ start()`, 0, 120000, 60000, row(x, 5, 5, 5)},
		tour{`x - x @ start()`, 0, 120000, 60000, row(bare, 0, 1, 2)},
		tour{`x @ end() - x`, 0, 120000, 60000, row(bare, 2, 1, 0)},
		tour{`x @ 600`, 0, 120000, 60000, row(x, 10, 10, 10)},
		tour{`sum_over_time(x[2m] @ end())`, 0, 120000, 60000, row(bare, 3, 3, 3)},
		tour{`sum_over_time(x[2m:1m] @ end())`, 0, 120000, 60000, row(bare, 3, 3, 3)},
		tour{`sum_over_time(x[2m:1m] @ start())`, 0, 120000, 60000, row(bare, -1, -1, -1)},
		tour{`sum_over_time((x @ end())[2m:1m])`, 0, 120000, 60000, row(bare, 4, 4, 4)},
		tour{`sum_over_time((x @ start())[2m:1m] @ end())`, 60000, 120000, 60000, `matrix at 0: {job="a"} 60000:2 120000:2`},
	)
}

// P24.1: where a When leads outside the times, there just are no samples; with two of them it may lead back.
func TestBeyondAllTimes(t *testing.T) {
	s := loaded(fmt.Sprintf(`x %d:1 0:2 %d:3`, api.MinTime, api.MaxTime))
	verify(t, s,
		ask{`x offset 10000y`, 0, `vector at 0:`},
		ask{`x offset -10000y`, 0, `vector at 0:`},
		ask{`x offset -10000y`, api.MaxTime, `vector at 253402300799999:`},
		ask{`x offset 10000y`, api.MinTime, `vector at -62167219200000:`},
		ask{`x offset -1ms`, api.MaxTime, `vector at 253402300799999: x 3`},
		ask{`x offset -5m`, api.MaxTime, `vector at 253402300799999:`},
		ask{`x offset -4m59s999ms`, api.MaxTime, `vector at 253402300799999: x 3`},
		ask{`x offset 1ms`, api.MinTime, `vector at -62167219200000:`},
		ask{`x[10000y] offset -10000y`, 0, `matrix at 0: x 253402300799999:3`},
		ask{`x[10000y]`, 0, fmt.Sprintf(`matrix at 0: x %d:1 0:2`, api.MinTime)},
		ask{`x[10000y] offset 10000y`, 0, `matrix at 0:`},
		ask{`x @ 253402300799.999`, 0, `vector at 0: x 3`},
		ask{`x @ 253402300799.999 offset 5m`, 0, `vector at 0:`},
		ask{`x @ 253402300800`, 0, `error 33`},
		ask{`last_over_time((x offset -10000y)[1m:1m] offset 10000y)`, 0, `vector at 0: x 2`},
		ask{`last_over_time((x offset 10000y)[1m:1m] offset -10000y)`, 0, `vector at 0: x 2`},
		ask{`(x offset -10000y)[1m:1m] offset 10000y`, 0, `matrix at 0: x -315360000000000:2`},
		ask{`vector(time())[1m:1m] offset -10000y`, 0, `matrix at 0: {} 315360000000000:3.1536e+11`},
		ask{`absent(x offset 10000y)`, 0, `vector at 0: {} 1`},
	)
}

// P24.1: many subqueries within each other lead to times so far away that the functions of windows say nothing of them.
func TestVeryFarTimes(t *testing.T) {
	nested := func(depth int, offset string) string {
		query := `vector(1)[1ms:1ms] offset ` + offset
		for range depth {
			query = `last_over_time(` + query + `)[1ms:1ms] offset ` + offset
		}
		return `last_over_time(` + query + `)`
	}
	s := loaded(`x 0:1`)
	verify(t, s,
		ask{nested(27, "10000y"), 0, `vector at 0: {} 1`},
		ask{nested(28, "10000y"), 0, `vector at 0:`},
		ask{nested(27, "-10000y"), 0, `vector at 0: {} 1`},
		ask{nested(28, "-10000y"), 0, `vector at 0:`},
		ask{nested(60, "10000y"), 0, `vector at 0:`},
		ask{nested(60, "-10000y"), 0, `vector at 0:`},
	)
}
