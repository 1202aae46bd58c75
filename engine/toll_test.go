package engine_test

import (
	"fmt"
	"strings"
	"testing"

	"weir/api"
	"weir/engine"
	"weir/store"
)

// crowded: two series that x{a=~".+"} chooses, and one more of the name; what lies around them costs nothing.
func crowded() *store.Store {
	return loaded(`x{a="1"} 0:1 15000:2 30000:3`, `x{a="2"} 0:1 20000:_`, `x 30000:9`, `y{a="1"} 0:1 10000:2 20000:3 30000:4`, `z`)
}

// P24.1: what each node costs, at one time.
func TestTolls(t *testing.T) {
	s := crowded()
	for query, want := range map[string]int{
		// Nodes alone.
		`1`: 1, `5m`: 1, `"a"`: 1, `(((1)))`: 1, `-1`: 2, `- -1`: 3, `1 + 1`: 3, `time()`: 1, `hour()`: 1, `vector(1)`: 2, `vector(time())`: 2, `hour(vector(time()))`: 3, `round(vector(2), 1)`: 4,
		// Selectors: 1, each series, each sample.
		`none`: 1, `z`: 2, `x`: 1 + 3 + 2, `y`: 1 + 1 + 1, `x{a=~".+"}`: 1 + 2 + 1, `x{a!~".+"}`: 1 + 1 + 1, `x{a="2"}`: 1 + 1, `{a="1"}`: 1 + 2 + 2, `x offset 20s`: 1 + 3 + 2, `x offset 10000y`: 1 + 3, `x @ 0`: 1 + 3 + 2, `-x`: 2 + 3 + 2, `x + x`: 3 + 6 + 4, `x > 100`: 2 + 3 + 2 + 1,
		// Ranges: 1 with their selectors, each series, each sample that isn't stale.
		`none[1m]`: 1, `z[1m]`: 2, `x[1m]`: 1 + 3 + 5, `x[15s]`: 1 + 3 + 2, `y[1m]`: 1 + 1 + 4, `x[1m] offset 10000y`: 1 + 3, `x[1m] @ 0`: 1 + 3 + 2, `max_over_time(x{a="1"}[1m])`: 2 + 1 + 3, `absent_over_time(x{a="2"}[1m])`: 2 + 1 + 1, `quantile_over_time(0.5, x{a="2"}[1m])`: 3 + 1 + 1,
		// Subqueries: 1, and each evaluation; what they hold costs nothing more.
		`vector(1)[1m:1m]`: 1 + 2, `vector(1)[1m:7s]`: 1 + 2*9, `vector(1)[1m:7m]`: 1 + 2, `vector(1)[1m:7m] offset 1m`: 1, `y[30s:10s]`: 1 + 3*3, `y[30s:10s] offset -10000y`: 1 + 3*2, `sum_over_time(y[30s:10s])`: 2 + 3*3, `max_over_time(vector(1)[2s:1s])[20s:10s]`: 1 + 2*(2+2*2), `count_over_time(y[20s:10s])[20s:10s]`: 1 + 2*(2+2*3),
		// Aggregations and functions: 1, their kids, and nothing more.
		`sum(x)`: 2 + 3 + 2, `topk(1, x)`: 3 + 3 + 2, `count_values("v", x)`: 3 + 3 + 2, `sum by (a) (x) + 1`: 4 + 3 + 2, `label_replace(x, "b", "c", "a", "(.*)")`: 6 + 3 + 2, `label_join(x, "b", "-")`: 4 + 3 + 2, `scalar(x)`: 2 + 3 + 2, `sort(x)`: 2 + 3 + 2,
		`timestamp(x)`: 2 + 3 + 2, `timestamp(none)`: 2, `timestamp(-x)`: 3 + 3 + 2, `timestamp(x offset 10000y)`: 2 + 3, `absent(x)`: 2 + 3 + 2, `absent(none)`: 2, `absent(x offset 10000y)`: 2 + 3, `x and none`: 3 + 3 + 2, `none and x`: 3 + 3 + 2, `x or x`: 3 + 6 + 4,
	} {
		if toll, e := engine.Toll(s, query, 30000); toll != want || e != 0 {
			t.Errorf("Toll(%s) = %d, %d; want %d", query, toll, e, want)
		}
	}
}

// P24.1: what a query costs is what it costs at its time.
func TestTollAtItsTime(t *testing.T) {
	for _, c := range []struct {
		query string
		at    int64
		want  int
	}{
		{`x`, -1, 1 + 3}, {`x`, 0, 1 + 3 + 2}, {`x`, 19999, 1 + 3 + 2}, {`x`, 20000, 1 + 3 + 1}, {`x`, 30000, 1 + 3 + 2}, {`x`, 329999, 1 + 3 + 2}, {`x`, 330000, 1 + 3},
		{`x[20s]`, 0, 1 + 3 + 2}, {`x[20s]`, 15000, 1 + 3 + 3}, {`x[20s]`, 20000, 1 + 3 + 1}, {`x[20s]`, 1 << 40, 1 + 3},
		{`x[20s] @ 15`, 1 << 40, 1 + 3 + 3}, {`x @ start()`, 0, 1 + 3 + 2}, {`x @ end()`, 1 << 40, 1 + 3},
	} {
		if toll, e := engine.Toll(crowded(), c.query, c.at); toll != c.want || e != 0 {
			t.Errorf("Toll(%s, %d) = %d, %d; want %d", c.query, c.at, toll, e, c.want)
		}
	}
}

// heavy: so many series x, each with a sample at 0.
func heavy(n int) api.Dataset {
	var d api.Dataset
	for i := range n {
		d.Series = append(d.Series, series(fmt.Sprintf(`x{n="%d"} 0:1`, i)))
	}
	return d
}

// A price is what a query costs at 0.
type price struct {
	query string
	toll  int
}

// verifyPrices: a toll of MaxToll is paid, and what costs more is refused by Instant and Toll alike.
func verifyPrices(t *testing.T, s *store.Store, prices ...price) {
	t.Helper()
	for _, c := range prices {
		wantE, want := api.Errno(0), c.toll
		if c.toll > api.MaxToll {
			wantE, want = api.ErrToll, 0
		}
		if toll, e := engine.Toll(s, c.query, 0); toll != want || e != wantE {
			t.Errorf("Toll(%.200s) = %d, %d; want %d, %d", c.query, toll, e, want, wantE)
		}
		if a, e := engine.Instant(s, c.query, 0); e != wantE || e != 0 && a.Type != 0 {
			t.Errorf("%.200s: type %d, %d; want the error %d", c.query, a.Type, e, wantE)
		}
	}
}

// P24.1: what costs just MaxToll is taken, what costs one more is refused: by nodes, by series, by samples.
func TestMaxToll(t *testing.T) {
	verifyPrices(t, nil,
		price{`vector(1)[249999ms:1ms]`, 499999}, price{`vector(1)[250000ms:1ms]`, 500001},
		price{`max_over_time(vector(1)[249999ms:1ms])`, 500000}, price{`- max_over_time(vector(1)[249999ms:1ms])`, 500001},
		price{`none + max_over_time(vector(1)[249998ms:1ms])`, 500000}, price{`max_over_time(vector(1)[249998ms:1ms]) + -1`, 500001},
		price{`max_over_time(none[499998ms:1ms])`, 500000}, price{`max_over_time(none[499999ms:1ms])`, 500001},
		price{`max_over_time(vector(1)[10000y:1ms])`, 500001},
	)
	d := heavy(996)
	d.Series = append(d.Series, dense(99004))
	s := load(d)
	verifyPrices(t, s,
		// A selector of 996 series costs 1993, so 250 of them 498250.
		price{`sum_over_time(x[249ms:1ms] @ 0.248)`, 2 + 249*1993}, price{`max_over_time(x[250ms:1ms] @ 0.249)`, 2 + 250*1993}, price{`max_over_time(x[251ms:1ms] @ 0.250)`, 500001},
		price{`max_over_time(x[250ms:1ms] @ 0.249) + max_over_time(vector(1)[872ms:1ms])`, 1 + 2 + 250*1993 + 2 + 2*872},
		price{`+(max_over_time(x[250ms:1ms] @ 0.249) + max_over_time(vector(1)[872ms:1ms]))`, 500000},
		price{`+ +(max_over_time(x[250ms:1ms] @ 0.249) + max_over_time(vector(1)[872ms:1ms]))`, 500001},
		// So many samples in a window cost 99007 with their series and their two nodes.
		price{`max_over_time(count_over_time(dense[100s] @ 0)[5ms:1ms]) + max_over_time(vector(1)[2480ms:1ms])`, 1 + 2 + 5*99007 + 2 + 2*2480},
		price{`-max_over_time(count_over_time(dense[100s] @ 0)[5ms:1ms]) + max_over_time(vector(1)[2480ms:1ms])`, 500001},
		price{`max_over_time(count_over_time(dense[100s] @ 0)[6ms:1ms])`, 500001},
	)
}

// P24.1: the toll of a range is that of all its steps together.
func TestTollOfRanges(t *testing.T) {
	fifty := `-1` + strings.Repeat(` + 1`, 24)
	if toll, e := engine.Toll(nil, fifty, 0); toll != 50 || e != 0 {
		t.Fatalf("Toll = %d, %d", toll, e)
	}
	for _, c := range []struct {
		query string
		steps int64
		e     api.Errno
	}{{fifty, 10000, 0}, {fifty, 10001, api.ErrToll}, {`-` + fifty, 9803, 0}, {`-` + fifty, 9804, api.ErrToll}, {`1`, 11000, 0}, {`max_over_time(vector(1)[22ms:1ms])`, 10869, 0}, {`max_over_time(vector(1)[22ms:1ms])`, 10870, api.ErrToll}} {
		a, e := engine.Range(nil, c.query, 0, c.steps-1, 1)
		if e != c.e || e == 0 && (len(a.Matrix) != 1 || len(a.Matrix[0].Points) != int(c.steps)) || e != 0 && a.Type != 0 {
			t.Errorf("%s, %d steps: type %d, %d; want the error %d", c.query, c.steps, a.Type, e, c.e)
		}
	}
	s := load(heavy(996))
	for end, want := range map[int64]api.Errno{249: 0, 250: api.ErrToll} {
		if _, e := engine.Range(s, `x`, 0, end, 1); e != want {
			t.Errorf("%d steps of many series: %d; want %d", end+1, e, want)
		}
	}
	// A later step's error is never come to, if the steps ahead of it cost too much.
	dear := load(api.Dataset{Series: append(heavy(996).Series, data(`y{a="1"} 0:1`, `y{a="2"} 260:1`).Series...)})
	verifyRange(t, dear, tour{`y + on() y`, 0, 270, 1, `error 210`}, tour{`x unless on() (y + on() y)`, 0, 270, 1, `error 240`}, tour{`x unless on() (y + on() y)`, 100, 270, 1, `error 210`})
}
