package engine_test

import (
	"fmt"
	"testing"

	"weir/api"
	"weir/engine"
)

// P24.1: the chapter's examples.
func TestExamples(t *testing.T) {
	s := example()
	verify(t, s,
		ask{`up`, 60000, `vector at 60000: up{job="a"} 2`},
		ask{`up`, 0, `vector at 0: up{job="a"} 1; up{job="b"} 10`},
		ask{`up[2m]`, 120000, `matrix at 0: up{job="a"} 60000:2 120000:3`},
		ask{`sum(up) + 1`, 0, `vector at 0: {} 12`},
		ask{`absent(up{job="c"})`, 0, `vector at 0: {job="c"} 1`},
	)
	if toll, e := engine.Toll(s, `sum(up) + 1`, 0); toll != 8 || e != 0 {
		t.Errorf("Toll = %d, %d", toll, e)
	}
	verifyRange(t, s, tour{`up offset 1m`, 0, 120000, 60000, `matrix at 0: up{job="a"} 60000:1 120000:2; up{job="b"} 60000:10`})
}

// P24.1: the document's examples of the whole, as far as they are an engine's.
func TestExamplesOfTheWhole(t *testing.T) {
	s := loaded(`up{tenant="a"} 0:1 60000:2`, `up{tenant="b"} 0:10 60000:20`)
	verify(t, s,
		ask{`sum(up{tenant=~"a"})`, 60000, `vector at 60000: {} 2`},
		ask{`up{tenant="b",tenant=~"a"}`, 60000, `vector at 60000:`},
		ask{`absent(up{tenant="b",tenant=~"a"})`, 60000, `vector at 60000: {tenant="b"} 1`},
		ask{`up / on() up`, 60000, `error 210`},
		ask{`up{tenant=~"a"} / on() up{tenant=~"a"}`, 60000, `vector at 60000: {} 1`},
		ask{`-2 ^ 2`, 60000, `scalar at 60000: -4`},
		ask{`(-2) ^ 2`, 60000, `scalar at 60000: 4`},
		ask{`max_over_time(up[100y:1ms])`, 60000, `error 240`},
	)
}

// P24.1: what is answered stands in the field of its type, and in no other one; of a range vector the time is 0.
func TestTypesOfAnswers(t *testing.T) {
	verify(t, example(),
		ask{`1.5`, 1000, `scalar at 1000: 1.5`},
		ask{`0`, 1000, `scalar at 1000: 0`},
		ask{`-0`, 1000, `scalar at 1000: -0`},
		ask{`nan`, -1, `scalar at -1: NaN`},
		ask{`-inf`, 0, `scalar at 0: -Inf`},
		ask{`scalar(up{job="a"})`, 7, `scalar at 7: 1`},
		ask{`'a'`, 1000, `string at 1000: "a"`},
		ask{`""`, -5, `string at -5: ""`},
		ask{"`a\\n`", 0, `string at 0: "a\\n"`},
		ask{`("\u00e9\n")`, 0, `string at 0: "é\n"`},
		ask{`vector(1)`, 1000, `vector at 1000: {} 1`},
		ask{`down`, 1000, `vector at 1000:`},
		ask{`up[1m]`, 60000, `matrix at 0: up{job="a"} 60000:2`},
		ask{`down[1m]`, 60000, `matrix at 0:`},
		ask{`down[1m:1s]`, 60000, `matrix at 0:`},
		ask{`vector(2)[1m:1m]`, 60000, `matrix at 0: {} 60000:2`},
	)
}

// P24.1: a vector stands in canonical order, wherever its elements come from.
func TestOrderOfVectors(t *testing.T) {
	s := loaded(`x{job="b"} 0:1`, `x{job="a"} 0:2`, `b{A="2"} 0:3`, `a{job="a"} 0:4`, `{job="0"} 0:5`, `x 0:6`, `b{A="10"} 0:7`)
	verify(t, s,
		ask{`{__name__!="none",job!="none"}`, 0, `error 143`},
		ask{`{job=~".+"}`, 0, `vector at 0: a{job="a"} 4; x{job="a"} 2; x{job="b"} 1; {job="0"} 5`},
		ask{`{__name__=~".+"}`, 0, `vector at 0: b{A="10"} 7; b{A="2"} 3; a{job="a"} 4; x 6; x{job="a"} 2; x{job="b"} 1`},
		ask{`x or a or b`, 0, `vector at 0: b{A="10"} 7; b{A="2"} 3; x 6; x{job="a"} 2; x{job="b"} 1`},
		ask{`label_replace(x, "job", "c", "job", "a")`, 0, `vector at 0: x 6; x{job="b"} 1; x{job="c"} 2`},
		ask{`last_over_time({__name__=~"[ab]"}[1m])`, 0, `vector at 0: b{A="10"} 7; b{A="2"} 3; a{job="a"} 4`},
	)
}

// P24.1: at the root sort and sort_desc have an order of their own, and there alone.
func TestSort(t *testing.T) {
	s := loaded(`x{a="1"} 0:3 60000:1`, `x{a="2"} 0:1 60000:2`, `x{a="3"} 0:2 60000:3`, `x{a="4"} 0:nan 60000:0`)
	const canonical = `vector at 0: x{a="1"} 3; x{a="2"} 1; x{a="3"} 2; x{a="4"} NaN`
	verify(t, s,
		ask{`sort(x)`, 0, `vector at 0: x{a="2"} 1; x{a="3"} 2; x{a="1"} 3; x{a="4"} NaN`},
		ask{`sort_desc(x)`, 0, `vector at 0: x{a="1"} 3; x{a="3"} 2; x{a="2"} 1; x{a="4"} NaN`},
		ask{`((sort_desc((x))))`, 0, `vector at 0: x{a="1"} 3; x{a="3"} 2; x{a="2"} 1; x{a="4"} NaN`},
		ask{`sort(sort_desc(x))`, 0, `vector at 0: x{a="2"} 1; x{a="3"} 2; x{a="1"} 3; x{a="4"} NaN`},
		ask{`+sort(x)`, 0, canonical},
		ask{`+sort_desc(x)`, 0, canonical},
		ask{`+ +sort_desc(x)`, 0, canonical},
		ask{`sort(x) or x`, 0, canonical},
		ask{`-sort_desc(x)`, 0, `vector at 0: {a="1"} -3; {a="2"} -1; {a="3"} -2; {a="4"} NaN`},
		ask{`timestamp(sort_desc(x))`, 0, `vector at 0: {a="1"} 0; {a="2"} 0; {a="3"} 0; {a="4"} 0`},
		ask{`abs(sort_desc(x))`, 0, `vector at 0: {a="1"} 3; {a="2"} 1; {a="3"} 2; {a="4"} NaN`},
		ask{`sort_desc(x)[1m:1m]`, 0, `matrix at 0: x{a="1"} 0:3; x{a="2"} 0:1; x{a="3"} 0:2; x{a="4"} 0:NaN`},
		ask{`topk(2, sort(x))`, 0, `vector at 0: x{a="1"} 3; x{a="3"} 2`},
	)
	verifyRange(t, s,
		tour{`sort(x)`, 0, 60000, 60000, `matrix at 0: x{a="1"} 0:3 60000:1; x{a="2"} 0:1 60000:2; x{a="3"} 0:2 60000:3; x{a="4"} 0:NaN 60000:0`},
		tour{`sort_desc(x)`, 0, 60000, 60000, `matrix at 0: x{a="1"} 0:3 60000:1; x{a="2"} 0:1 60000:2; x{a="3"} 0:2 60000:3; x{a="4"} 0:NaN 60000:0`},
	)
}

// P24.1: Instant's and Toll's errors come in their order: the text's, the tree's, the time's, the evaluation's.
func TestOrderOfErrors(t *testing.T) {
	s := example()
	const far = api.MaxTime + 1
	verify(t, s,
		ask{`up +`, far, `error 131`},
		ask{`up + "a`, far, `error 111`},
		ask{`-"x" +`, far, `error 131`},
		ask{`up[0s] )`, 0, `error 130`},
		ask{``, 0, `error 131`},
		ask{"\xff", 0, `error 110`},
		ask{"'\xff'", 0, `error 111`},
		ask{`up + "a"`, far, `error 140`},
		ask{`nothing(up / on() up)`, 0, `error 142`},
		ask{`up @ 1e300`, far, `error 33`},
		ask{`{}`, far, `error 143`},
		ask{`{a=~"("}`, far, `error 144`},
		ask{`up / on() up`, far, `error 33`},
		ask{`up / on() up`, api.MinTime - 1, `error 33`},
		ask{`vector(1)[100y:1ms]`, far, `error 33`},
		ask{`up / on() up`, 0, `error 210`},
		ask{`vector(1)[100y:1ms]`, 0, `error 240`},
	)
	verify(t, nil, ask{`up +`, far, `error 131`}, ask{`up + "a"`, far, `error 140`}, ask{`up`, far, `error 33`}, ask{`vector(1)[100y:1ms]`, 0, `error 240`})
}

// P24.1: Range's errors come in their order: the text's, the tree's, the type's, those of Steps, the evaluation's.
func TestOrderOfErrorsOfRanges(t *testing.T) {
	const far = api.MaxTime + 1
	verifyRange(t, example(),
		tour{`up[5m] +`, far, 0, 0, `error 131`},
		tour{`up[0s]`, far, 0, 0, `error 147`},
		tour{`end() - 1`, far, 0, 0, `error 142`},
		tour{`up[5m]`, far, 0, 0, `error 140`},
		tour{`up[5m:1m]`, far, 0, 0, `error 140`},
		tour{`"a"`, far, 0, 0, `error 140`},
		tour{`up[5m]`, 0, 60000, 60000, `error 140`},
		tour{`up[5m:]`, 0, 60000, 60000, `error 140`},
		tour{`"a"`, 0, 60000, 60000, `error 140`},
		tour{`up / on() up`, far, 0, 0, `error 33`},
		tour{`up / on() up`, 0, far, 1, `error 33`},
		tour{`up / on() up`, 1, 0, 1, `error 2`},
		tour{`up / on() up`, 0, 10, 0, `error 2`},
		tour{`up / on() up`, 0, 11000, 1, `error 241`},
		tour{`up / on() up`, 0, 10, 1, `error 210`},
		tour{`up / on() up`, 60000, 120000, 60000, `matrix at 0: {} 60000:1 120000:1`},
		tour{`up / on() up`, -1, 0, 1, `error 210`},
		tour{`1`, 0, 11000, 1, `error 241`},
		tour{`1`, far, far, 1, `error 33`},
	)
	verifyRange(t, nil, tour{`up[5m]`, far, 0, 0, `error 140`}, tour{`up`, far, 0, 0, `error 33`}, tour{`up`, 0, 1, 1, `matrix at 0:`})
}

// P24.1: an error at a later step is the answer, and that of the earliest step comes first.
func TestErrorsOfSteps(t *testing.T) {
	s := loaded(`x{a="1"} 0:1`, `x{a="2"} 60000:1`, `y{a="1"} 30000:1`, `y{a="2"} 60000:1`)
	verifyRange(t, s,
		tour{`x + on() vector(1)`, 0, 59999, 1000, `matrix at 0: {}` + everySecond(60)},
		tour{`x + on() vector(1)`, 0, 60000, 1000, `error 211`},
		tour{`vector(1) + on() x`, 0, 60000, 1000, `error 210`},
		tour{`vector(1) + on() x + on() (y + on() vector(1))`, 0, 60000, 60000, `error 210`},
		tour{`(y + on() vector(1)) + on() (vector(1) + on() x)`, 0, 60000, 60000, `error 211`},
	)
}

// everySecond: points of the value 2, from 0 on.
func everySecond(n int) string {
	text := ""
	for k := range n {
		text += fmt.Sprintf(" %d:2", k*1000)
	}
	return text
}

// P24.1: of a scalar Range answers one series without labels; of a vector one for each label set that is there at some step, with gaps where it isn't; points rise.
func TestRanges(t *testing.T) {
	s := loaded(`x{A="1"} 0:1 60000:_ 120000:3`, `x{a="2"} 60000:-0`, `x 0:nan 60000:inf`, `y{a="2"} 120000:7`)
	verifyRange(t, s,
		tour{`2.5`, 0, 3, 1, `matrix at 0: {} 0:2.5 1:2.5 2:2.5 3:2.5`},
		tour{`time() - 1`, -1000, 1500, 1000, `matrix at 0: {} -1000:-2 0:-1 1000:0`},
		tour{`scalar(x{A="1"})`, 0, 120000, 60000, `matrix at 0: {} 0:1 60000:NaN 120000:3`},
		tour{`vector(time())`, 0, 2000, 2000, `matrix at 0: {} 0:0 2000:2`},
		tour{`x`, 0, 120000, 60000, `matrix at 0: x{A="1"} 0:1 120000:3; x 0:NaN 60000:+Inf 120000:+Inf; x{a="2"} 60000:-0 120000:-0`},
		tour{`x`, -1, -1, 1, `matrix at 0:`},
		tour{`x`, 60000, 60000, 1, `matrix at 0: x 60000:+Inf; x{a="2"} 60000:-0`},
		tour{`{a="2"}`, 0, 180000, 60000, `matrix at 0: x{a="2"} 60000:-0 120000:-0 180000:-0; y{a="2"} 120000:7 180000:7`},
		tour{`x{a="2"} or y{a="2"} * 2 or y`, 119000, 121000, 1000, `matrix at 0: x{a="2"} 119000:-0 120000:-0 121000:-0`},
		tour{`label_replace(x{A="1"}, "A", "t", "A", "1") or x`, 0, 60000, 60000, `matrix at 0: x{A="1"} 0:1; x{A="t"} 0:1; x 0:NaN 60000:+Inf; x{a="2"} 60000:-0`},
		tour{`count_values("v", x)`, 0, 60000, 60000, `matrix at 0: {v="+Inf"} 60000:1; {v="-0"} 60000:1; {v="1"} 0:1; {v="NaN"} 0:1`},
		tour{`x > 2`, 0, 120000, 60000, `matrix at 0: x{A="1"} 120000:3; x 60000:+Inf 120000:+Inf`},
	)
}

// P24.1: the first and the last time, and those just beyond them.
func TestFirstAndLastTime(t *testing.T) {
	s := loaded(fmt.Sprintf(`x %d:1 0:2 %d:3`, api.MinTime, api.MaxTime))
	verify(t, s,
		ask{`x`, api.MinTime, `vector at -62167219200000: x 1`},
		ask{`x`, api.MaxTime, `vector at 253402300799999: x 3`},
		ask{`x`, api.MinTime - 1, `error 33`},
		ask{`x`, api.MaxTime + 1, `error 33`},
		ask{`x`, -1 << 63, `error 33`},
		ask{`x`, 1<<63 - 1, `error 33`},
		ask{`1`, 1<<63 - 1, `error 33`},
		ask{`"a"`, api.MaxTime + 1, `error 33`},
		ask{`"a"`, api.MaxTime, `string at 253402300799999: "a"`},
		ask{`time()`, api.MaxTime, `scalar at 253402300799999: 2.53402300799999e+11`},
		ask{`year()`, api.MinTime, `vector at -62167219200000: {} 0`},
		ask{`year()`, api.MaxTime, `vector at 253402300799999: {} 9999`},
	)
	verifyRange(t, s, tour{`x`, api.MaxTime - 1, api.MaxTime, 1, `matrix at 0: x 253402300799999:3`},
		tour{`x`, api.MinTime, api.MinTime + 300000, 299999, `matrix at 0: x -62167219200000:1 -62167218900001:1`},
		tour{`x`, api.MinTime, api.MaxTime, api.MaxTime - api.MinTime, `matrix at 0: x -62167219200000:1 253402300799999:3`})
}

// P24.1: a nil store is one without a series.
func TestNilStore(t *testing.T) {
	verify(t, nil,
		ask{`up`, 0, `vector at 0:`},
		ask{`up[5m]`, 0, `matrix at 0:`},
		ask{`sum(up)`, 0, `vector at 0:`},
		ask{`1 + 1`, 0, `scalar at 0: 2`},
		ask{`absent(up{a="1"})`, 0, `vector at 0: {a="1"} 1`},
		ask{`up or vector(1)`, 0, `vector at 0: {} 1`},
	)
	if toll, e := engine.Toll(nil, `up + sum(up[5m:1m])`, 0); e != api.ErrType || toll != 0 {
		t.Errorf("Toll = %d, %d", toll, e)
	}
	if toll, e := engine.Toll(nil, `up + sum_over_time(up[5m:1m])`, 0); toll != 9 || e != 0 {
		t.Errorf("Toll = %d, %d", toll, e)
	}
}
