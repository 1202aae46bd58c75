package span_test

import (
	"math"
	"strconv"
	"strings"
	"sync"
	"testing"

	"weir/api"
	"weir/span"
)

// hostile: texts that are wrong, cut short or long.
func hostile() []string {
	out := []string{"", "\x00", "\xff", "-", "+", ".", "m", "ms", "1", "1m", "1.", "-.", "+.5", "Z", "T", ":", "\xc3", "\xf0\x9f\x98", "1y\xff"}
	good := "2000-02-29T01:02:03.4567-08:09"
	for n := range good {
		out = append(out, good[:n], good[n:], good[:n]+"\xff"+good[n:])
	}
	for _, s := range []string{"0", "9", ".", "-", "+", "1y", "1ms", "ms", "\xff", "Z", "00:00", "0000-", "é"} {
		for _, n := range []int{7, 20, 31, 32, 63, 64, 65, 1000, 300000} {
			out = append(out, strings.Repeat(s, n), "1"+strings.Repeat(s, n), "-"+strings.Repeat(s, n), strings.Repeat(s, n)+"ms")
		}
	}
	return out
}

// ints: numbers at both ends of their type, and around nought and the limits.
func ints() []int64 {
	var out []int64
	for _, n := range []int64{0, minTime, maxTime, maxDur, -maxDur, math.MinInt64, math.MaxInt64, math.MinInt32, math.MaxInt32, dayLength, -dayLength} {
		out = append(out, n-1, n, n+1) // round the ends
	}
	return out
}

// P1, rule 1: no call panics, and each ends.
func TestTotal(t *testing.T) {
	for _, s := range hostile() {
		span.Parse(s)
		span.Stamp(s)
		span.Step(s)
		if n := span.Prefix(s); n < 0 || n > len(s) {
			t.Errorf("Prefix(%.20q) = %d", s, n)
		}
	}
	for _, n := range ints() {
		span.Text(n)
		span.Date(n)
		if c := span.Civil(n); c.Month < 1 || c.Month > 12 || c.Day < 1 || c.Day > c.MonthDays {
			t.Errorf("Civil(%d) = %v", n, c)
		}
		if span.Seconds(n) == "" {
			t.Errorf("Seconds(%d) is empty", n)
		}
		for _, m := range ints() {
			span.Moment(api.Civil{Year: int(n), Month: int(m), Day: int(n), Hour: int(m), Minute: int(n), Second: int(m), Milli: int(n), Weekday: int(m), YearDay: int(n), MonthDays: int(m)})
			span.Moment(api.Civil{Year: 2000, Month: int(n), Day: int(m), MonthDays: int(m)})
		}
	}
	r := someRand()
	for range 20000 {
		span.Millis(math.Float64frombits(r.Uint64()))
	}
}

// P1, rule 3: beside an error stands the zero value.
func TestZeroBesideAnError(t *testing.T) {
	texts := append(hostile(), "10000y1ms", "99999999999999999999s", "1970-02-30T00:00:00Z", "9999-12-31T23:59:59.9995Z", "0000-01-01T00:00:00+00:01", "253402300800", "-1", "-0.5", "0", "0s", "1h30", "1970-01-01T05:00:00+24:00")
	for _, s := range append(texts, someDates(5000)...) {
		for name, call := range map[string]func(string) (int64, api.Errno){"Parse": span.Parse, "Stamp": span.Stamp, "Step": span.Step} {
			if n, e := call(s); e != api.OK && n != 0 {
				t.Errorf("%s(%.20q) = %d beside error %d", name, s, n, e)
			}
		}
	}
	for _, n := range ints() {
		if s, e := span.Text(n); (e == api.OK) != (s != "") {
			t.Errorf("Text(%d) = %q, %d", n, s, e)
		}
		if s, e := span.Date(n); (e == api.OK) != (s != "") {
			t.Errorf("Date(%d) = %q, %d", n, s, e)
		}
		if ms, e := span.Moment(api.Civil{Year: int(n), Month: 5, Day: int(n)}); e != api.OK && ms != 0 {
			t.Errorf("Moment of year and day %d = %d beside error %d", n, ms, e)
		}
		if ms, e := span.Millis(float64(n)); e != api.OK && ms != 0 {
			t.Errorf("Millis(%d) = %d beside error %d", n, ms, e)
		}
	}
}

// P1, rule 2: the errors in their order.
func TestOrderOfErrors(t *testing.T) {
	long := strings.Repeat("9", 64)
	checkReadings(t, "Parse", span.Parse, []reading{{long + "x", 0, api.ErrLong}, {long + "y", 0, api.ErrLong}, {long[2:] + "yx", 0, api.ErrDuration}, {long[1:] + "y", 0, api.ErrFar}, {"99999y1", 0, api.ErrDuration}})
	checkReadings(t, "Stamp", span.Stamp, []reading{{long + "x", 0, api.ErrLong}, {long + "9", 0, api.ErrLong}, {long[1:] + "x", 0, api.ErrStamp}, {long, 0, api.ErrTime}, {"0000-01-01T00:00:61+23:59", 0, api.ErrStamp}})
	checkReadings(t, "Step", span.Step, []reading{{long + "x", 0, api.ErrLong}, {"-" + long, 0, api.ErrLong}, {"-" + long[2:] + "x", 0, api.ErrDuration}, {"-" + long[1:], 0, api.ErrStep}, {long, 0, api.ErrFar}})
}

// P2 and rule 6: the same arguments give the same answers, whoever asks beside and whatever was asked ahead.
func TestNothingIsKept(t *testing.T) {
	texts, times := append(someDates(200), someTexts(400, pieces(), 5)...), someTimes(100)
	ask := func() string {
		var b strings.Builder
		for _, s := range texts {
			for _, call := range []func(string) (int64, api.Errno){span.Parse, span.Stamp, span.Step} {
				n, e := call(s)
				b.WriteString(strconv.FormatInt(n, 10) + e.Error())
			}
			b.WriteString(strconv.Itoa(span.Prefix(s)))
		}
		for _, ms := range times {
			text, _ := span.Text(ms)
			date, _ := span.Date(ms)
			b.WriteString(text + date + span.Seconds(ms))
		}
		return b.String()
	}
	want := ask()
	var all sync.WaitGroup
	for range 4 {
		all.Go(func() {
			if ask() != want {
				t.Error("the same questions were answered in two ways")
			}
		})
	}
	all.Wait()
}
