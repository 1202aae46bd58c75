package span_test

import (
	"math"
	"math/big"
	"strconv"
	"strings"
	"testing"

	"weir/api"
	"weir/span"
)

// P3.5: numbers of seconds: the chapter's examples and the edges.
func TestStampSeconds(t *testing.T) {
	checkReadings(t, "Stamp", span.Stamp, []reading{
		{"1.0005", 1001, 0}, {"-1.0005", -1000, 0}, {"-1.00050000001", -1001, 0}, {"253402300799.9995", 0, api.ErrTime}, {"-62167219200.0005", minTime, 0},

		{"0", 0, 0}, {"-0", 0, 0}, {"+0", 0, 0}, {"-0.0", 0, 0}, {"5", 5000, 0}, {"+5", 5000, 0}, {"-5", -5000, 0}, {"007", 7000, 0}, {"-007.5", -7500, 0}, {"1.5", 1500, 0}, {"1.05", 1050, 0}, {"1.005", 1005, 0}, {"1.999", 1999, 0}, {"0.1", 100, 0}, {"0.12", 120, 0}, {"0.123", 123, 0}, {"0.1230000000", 123, 0},
		{"0.0004", 0, 0}, {"0.00049999999999999999999999999999999999999999999999999999999999", 0, 0}, {"0.0005", 1, 0}, {"0.00050", 1, 0}, {"0.0005000000000000000000000000000000000000000000000000000000001", 1, 0}, {"0.0006", 1, 0}, {"0.9994", 999, 0}, {"0.9995", 1000, 0}, {"1.9999", 2000, 0},
		{"-0.0004", 0, 0}, {"-0.0005", 0, 0}, {"-0.000500000000000000000000000000000000000000000000000000000000", 0, 0}, {"-0.0005000000000000000000000000000000000000000000000000000000001", -1, 0}, {"-0.0006", -1, 0}, {"-0.9995", -999, 0}, {"-0.9996", -1000, 0}, {"-0.0015", -1, 0}, {"-0.00149", -1, 0}, {"-0.00151", -2, 0}, {"+0.0005", 1, 0},

		{"253402300799.999", maxTime, 0}, {"253402300799.9994", maxTime, 0}, {"253402300799.99949999999999999999999999999999999999999999999999", maxTime, 0}, {"253402300800", 0, api.ErrTime}, {"+253402300800", 0, api.ErrTime}, {"-62167219200", minTime, 0}, {"-62167219200.00050000000000000000000000000000000000000000000001", 0, api.ErrTime}, {"-62167219200.001", 0, api.ErrTime}, {"-62167219201", 0, api.ErrTime},
		{"315360000000", 0, api.ErrTime}, {"315360000001", 0, api.ErrTime}, {"9223372036854775", 0, api.ErrTime}, {"9223372036854775.807", 0, api.ErrTime}, {"9223372036854775808", 0, api.ErrTime}, {"-9223372036854775808", 0, api.ErrTime}, {"18446744073709551616", 0, api.ErrTime}, {"18446744073709552", 0, api.ErrTime}, {"-18446744073709552", 0, api.ErrTime},
		{strings.Repeat("0", 63) + "1", 1000, 0}, {strings.Repeat("0", 64) + "1", 0, api.ErrLong}, {strings.Repeat("9", 64), 0, api.ErrTime}, {"-" + strings.Repeat("9", 63), 0, api.ErrTime}, {strings.Repeat("9", 65), 0, api.ErrLong}, {strings.Repeat("x", 64), 0, api.ErrStamp}, {strings.Repeat("x", 65), 0, api.ErrLong}, {"1." + strings.Repeat("0", 62), 1000, 0}, {"1." + strings.Repeat("0", 63), 0, api.ErrLong},

		{"", 0, api.ErrStamp}, {"+", 0, api.ErrStamp}, {"-", 0, api.ErrStamp}, {".", 0, api.ErrStamp}, {"5.", 0, api.ErrStamp}, {".5", 0, api.ErrStamp}, {"-.5", 0, api.ErrStamp}, {"+-5", 0, api.ErrStamp}, {"--1", 0, api.ErrStamp}, {"-+1", 0, api.ErrStamp}, {"++1", 0, api.ErrStamp}, {"1e3", 0, api.ErrStamp}, {"1.5e3", 0, api.ErrStamp}, {"0x10", 0, api.ErrStamp}, {"1_0", 0, api.ErrStamp}, {" 1", 0, api.ErrStamp}, {"1 ", 0, api.ErrStamp}, {"1.2.3", 0, api.ErrStamp}, {"1,5", 0, api.ErrStamp}, {"1..5", 0, api.ErrStamp}, {"1.-5", 0, api.ErrStamp},
		{"inf", 0, api.ErrStamp}, {"NaN", 0, api.ErrStamp}, {"5s", 0, api.ErrStamp}, {"5-", 0, api.ErrStamp}, {"5Z", 0, api.ErrStamp}, {"1.5Z", 0, api.ErrStamp}, {"٣", 0, api.ErrStamp}, {"1\x00", 0, api.ErrStamp}, {"1.5\xff", 0, api.ErrStamp}, {"1/", 0, api.ErrStamp}, {"1:", 0, api.ErrStamp},
	})
}

// P3.5: dates: the chapter's examples and the edges.
func TestStampDates(t *testing.T) {
	checkReadings(t, "Stamp", span.Stamp, []reading{
		{"1969-12-31T23:59:59.9995Z", 0, 0}, {"1970-01-01T01:00:00+01:00", 0, 0}, {"1970-02-30T00:00:00Z", 0, api.ErrStamp}, {"0000-01-01T00:00:00+00:01", 0, api.ErrTime},

		{"1970-01-01T00:00:00Z", 0, 0}, {"2000-02-29T01:02:03.004Z", 951786123004, 0}, {"1970-01-01T00:00:00.5Z", 500, 0}, {"1970-01-01T00:00:00.05Z", 50, 0}, {"1970-01-01T00:00:00.0005Z", 1, 0}, {"1970-01-01T00:00:00.0004999Z", 0, 0}, {"1969-12-31T23:59:59.9994Z", -1, 0}, {"1969-12-31T23:59:59.9994999999999999999999999999999999999999999Z", -1, 0}, {"1969-12-31T23:59:58.0005Z", -1999, 0}, {"1969-12-31T23:59:58.00049Z", -2000, 0}, {"1969-12-31T23:59:58.99951Z", -1000, 0},
		{"1970-01-01T00:00:00+00:00", 0, 0}, {"1970-01-01T00:00:00-00:00", 0, 0}, {"1970-01-01T00:00:00-00:30", 1800000, 0}, {"1970-01-01T00:00:00+00:30", -1800000, 0}, {"1970-01-01T00:00:00+23:59", -86340000, 0}, {"1970-01-01T00:00:00-23:59", 86340000, 0}, {"1970-01-01T00:00:00.25-01:00", 3600250, 0}, {"1970-01-01T00:00:00.0005+00:01", -59999, 0}, {"1970-01-01T00:00:00.0005-00:01", 60001, 0}, {"1970-01-01T00:00:00+24:00", 0, api.ErrStamp}, {"1970-01-01T00:00:00+00:60", 0, api.ErrStamp}, {"1970-01-01T00:00:00-24:00", 0, api.ErrStamp}, {"1970-01-01T00:00:00-99:99", 0, api.ErrStamp},

		{"0000-01-01T00:00:00Z", minTime, 0}, {"0000-01-01T00:00:00-00:01", minTime + 60000, 0}, {"0000-01-01T00:01:00+00:01", minTime, 0}, {"0000-01-01T00:00:59.9994+00:01", 0, api.ErrTime}, {"0000-01-01T00:00:59.9995+00:01", minTime, 0}, {"9999-12-31T23:59:59.999Z", maxTime, 0}, {"9999-12-31T23:59:59.9994Z", maxTime, 0}, {"9999-12-31T23:59:59.9995Z", 0, api.ErrTime}, {"9999-12-31T23:59:59.9995+00:01", maxTime - 59999, 0}, {"9999-12-31T23:59:59-00:01", 0, api.ErrTime}, {"9999-12-31T23:58:59.999-00:01", maxTime, 0}, {"9999-12-31T23:59:00-00:01", 0, api.ErrTime}, {"9999-12-31T00:00:00-23:59", maxTime - 59999, 0}, {"9999-12-31T00:01:00-23:59", 0, api.ErrTime}, {"0000-01-01T23:58:00+23:59", 0, api.ErrTime}, {"0000-01-01T23:59:00+23:59", minTime, 0},

		{"1970-00-01T00:00:00Z", 0, api.ErrStamp}, {"1970-13-01T00:00:00Z", 0, api.ErrStamp}, {"1970-01-00T00:00:00Z", 0, api.ErrStamp}, {"1970-01-32T00:00:00Z", 0, api.ErrStamp}, {"1970-04-31T00:00:00Z", 0, api.ErrStamp}, {"1970-04-30T00:00:00Z", 10281600000, 0}, {"1900-02-29T00:00:00Z", 0, api.ErrStamp}, {"2000-02-29T00:00:00Z", 951782400000, 0}, {"2100-02-29T00:00:00Z", 0, api.ErrStamp}, {"0000-02-29T00:00:00Z", -62162121600000, 0}, {"1970-01-01T24:00:00Z", 0, api.ErrStamp}, {"1970-01-01T23:59:59Z", 86399000, 0}, {"1970-01-01T00:60:00Z", 0, api.ErrStamp}, {"1970-01-01T00:00:60Z", 0, api.ErrStamp}, {"1970-12-31T23:59:60Z", 0, api.ErrStamp}, {"0000-01-01T24:00:00+00:01", 0, api.ErrStamp},

		{"1970-01-01t00:00:00Z", 0, api.ErrStamp}, {"1970-01-01T00:00:00z", 0, api.ErrStamp}, {"1970-01-01 00:00:00Z", 0, api.ErrStamp}, {"1970-01-01T00:00:00", 0, api.ErrStamp}, {"1970-01-01T00:00:00.5", 0, api.ErrStamp}, {"1970-01-01T00:00:00.Z", 0, api.ErrStamp}, {"1970-01-01T00:00:00.+01:00", 0, api.ErrStamp}, {"1970-01-01T00:00Z", 0, api.ErrStamp}, {"1970-01-01", 0, api.ErrStamp}, {"1970-01-01T", 0, api.ErrStamp}, {"1970-01-01Z", 0, api.ErrStamp}, {"1970-1-01T00:00:00Z", 0, api.ErrStamp}, {"70-01-01T00:00:00Z", 0, api.ErrStamp}, {"01970-01-01T00:00:00Z", 0, api.ErrStamp}, {"10000-01-01T00:00:00Z", 0, api.ErrStamp}, {"-0001-01-01T00:00:00Z", 0, api.ErrStamp}, {"+1970-01-01T00:00:00Z", 0, api.ErrStamp},
		{"1970-01-01T00:00:00ZZ", 0, api.ErrStamp}, {"1970-01-01T00:00:00Z ", 0, api.ErrStamp}, {" 1970-01-01T00:00:00Z", 0, api.ErrStamp}, {"1970-01-01T00:00:00Z+00:00", 0, api.ErrStamp}, {"1970-01-01T00:00:00+0100", 0, api.ErrStamp}, {"1970-01-01T00:00:00+01", 0, api.ErrStamp}, {"1970-01-01T00:00:00+01:0", 0, api.ErrStamp}, {"1970-01-01T00:00:00+1:00", 0, api.ErrStamp}, {"1970-01-01T00:00:00+01:000", 0, api.ErrStamp}, {"1970-01-01T00:00:00+", 0, api.ErrStamp}, {"1970-01-01T00:00:00-", 0, api.ErrStamp}, {"1970-01-01T00:00:0001:00", 0, api.ErrStamp}, {"1970-01-01T00:00:00.501:00", 0, api.ErrStamp}, {"1970-01-01T00:00:00+-1:00", 0, api.ErrStamp}, {"1970-01-01T00:00:00+01:00Z", 0, api.ErrStamp}, {"1970-01-01T00:00:00,5Z", 0, api.ErrStamp}, {"1970-01-01T00:00:00.5.5Z", 0, api.ErrStamp}, {"1970-01-01T00:00:00±01:00", 0, api.ErrStamp}, {"1970-01-01T00:00:00.-5Z", 0, api.ErrStamp},

		{"1970-01-01T00:00:01." + strings.Repeat("0", 43) + "Z", 1000, 0}, {"1970-01-01T00:00:01." + strings.Repeat("0", 44) + "Z", 0, api.ErrLong}, {"1970-01-01T01:00:00." + strings.Repeat("9", 38) + "+01:00", 1000, 0}, {"1970-01-01T01:00:00." + strings.Repeat("9", 39) + "+01:00", 0, api.ErrLong},
	})
}

// P3.5: a date of which one byte is another one is just what the chapter's words say.
func TestStampOneByteOff(t *testing.T) {
	for _, good := range []string{"1971-12-30T11:22:33Z", "2004-02-29T11:22:33.4567-01:30", "0000-01-01T00:00:00+00:00", "-12.3456", "9999-12-31T23:59:59.999Z"} {
		for i := range good {
			for b := range 256 {
				s := good[:i] + string([]byte{byte(b)}) + good[i+1:]
				n, e := span.Stamp(s)
				if wantN, wantE := stamp(s); n != wantN || e != wantE {
					t.Errorf("Stamp(%q) = %d, %d; want %d, %d", s, n, e, wantN, wantE)
				}
			}
			s := good[:i] + good[i+1:]
			n, e := span.Stamp(s)
			if wantN, wantE := stamp(s); n != wantN || e != wantE {
				t.Errorf("Stamp(%q) = %d, %d; want %d, %d", s, n, e, wantN, wantE)
			}
		}
	}
}

func numberPieces() []string {
	return []string{"0", "1", "5", "9", "00", "0005", "000500", "4999", "62167219200", "253402300799", "315360000000", "99999999999999999999", ".", "-", "+", "e", "s", "1m", "ms", " "}
}

// someDates: texts of the form of a date, many of them with numbers beyond their ranges.
func someDates(count int) []string {
	r := someRand()
	two := func(most int) string {
		n := r.IntN(most + 1)
		if r.IntN(20) == 0 {
			n = r.IntN(100)
		}
		return strconv.Itoa(n + 100)[1:]
	}
	var out []string
	for range count {
		year := strconv.Itoa(10000 + r.IntN(10000))[1:]
		if r.IntN(4) == 0 {
			year = []string{"0000", "9999", "1970", "1969", "2000", "1900"}[r.IntN(6)]
		}
		s := year + "-" + two(12) + "-" + two(31) + "T" + two(23) + ":" + two(59) + ":" + two(59)
		if r.IntN(2) == 0 {
			s += "." + []string{"5", "9995", "99949", "0005", "00049", "12", "0"}[r.IntN(7)]
		}
		if r.IntN(2) == 0 {
			s += "Z"
		} else {
			s += []string{"+", "-"}[r.IntN(2)] + two(23) + ":" + two(59)
		}
		out = append(out, s)
	}
	return out
}

// P3.5, P3.8: texts at random, held against the chapter's words.
func TestStampAndStepBesideTheWords(t *testing.T) {
	texts := append(someTexts(60000, numberPieces(), 6), someDates(60000)...)
	for _, s := range append(texts, someTexts(20000, pieces(), 4)...) {
		n, e := span.Stamp(s)
		if wantN, wantE := stamp(s); n != wantN || e != wantE {
			t.Fatalf("Stamp(%q) = %d, %d; want %d, %d", s, n, e, wantN, wantE)
		}
		n, e = span.Step(s)
		if wantN, wantE := step(s); n != wantN || e != wantE {
			t.Fatalf("Step(%q) = %d, %d; want %d, %d", s, n, e, wantN, wantE)
		}
	}
}

// P3.10: the chapter's examples and the edges.
func TestMillis(t *testing.T) {
	last, first := 253402300799.999, -62167219200.0
	for _, c := range []struct {
		s float64
		n int64
		e api.Errno
	}{
		{1.5, 1500, 0}, {0.0005, 1, 0}, {-0.0005, 0, 0}, {math.NaN(), 0, api.ErrTime}, {math.Inf(1), 0, api.ErrTime}, {math.Inf(-1), 0, api.ErrTime}, {253402300800, 0, api.ErrTime},
		{0, 0, 0}, {math.Copysign(0, -1), 0, 0}, {5e-324, 0, 0}, {-5e-324, 0, 0}, {0.0004, 0, 0}, {math.Nextafter(0.0005, 0), 0, 0}, {math.Nextafter(0.0005, 1), 1, 0}, {-0.0006, -1, 0}, {-0.0015, -1, 0}, {-0.0016, -2, 0}, {0.0015, 2, 0}, {-1.5, -1500, 0}, {-1, -1000, 0}, {1e9, 1e12, 0}, {0.1, 100, 0}, {1.0005, 1001, 0}, {2.0005, 2001, 0},
		{last, maxTime, 0}, {first, minTime, 0}, {253402300799.9994, maxTime, 0}, {253402300799.9996, 0, api.ErrTime}, {first - 0.0004, minTime, 0}, {first - 0.0007, 0, api.ErrTime}, {first - 0.001, 0, api.ErrTime}, {first - 1, 0, api.ErrTime}, {math.MaxFloat64, 0, api.ErrTime}, {-math.MaxFloat64, 0, api.ErrTime}, {1e300, 0, api.ErrTime}, {9.3e15, 0, api.ErrTime}, {-9.3e15, 0, api.ErrTime},
	} {
		if n, e := span.Millis(c.s); n != c.n || e != c.e {
			t.Errorf("Millis(%v) = %d, %d; want %d, %d", c.s, n, e, c.n, c.e)
		}
	}
}

// nearest: the binary64 number nearest to an exact one.
func nearest(x *big.Rat) float64 {
	v, _ := x.Float64()
	return v
}

// P3.10, rule 7: each step is rounded by itself; the product isn't fused with the sum.
func TestMillisStepByStep(t *testing.T) {
	r := someRand()
	apart := 0
	for range 200000 {
		s := (r.Float64() - 0.3) * math.Pow(10, float64(r.IntN(13)))
		if r.IntN(2) == 0 { // near a half, where the steps can be told apart
			s = math.Copysign((float64(r.Int64N(1<<r.IntN(40)))+0.5)/1000, r.Float64()-0.5)
		}
		exact := new(big.Rat).SetFloat64(s)
		exact.Mul(exact, big.NewRat(1000, 1))
		x := nearest(exact)
		y := math.Floor(nearest(new(big.Rat).Add(new(big.Rat).SetFloat64(x), big.NewRat(1, 2))))
		if math.Floor(nearest(exact.Add(exact, big.NewRat(1, 2)))) != y {
			apart++
		}
		wantN, wantE := int64(y), api.OK
		if y < minTime || y > maxTime {
			wantN, wantE = 0, api.ErrTime
		}
		if n, e := span.Millis(s); n != wantN || e != wantE {
			t.Fatalf("Millis(%v) = %d, %d; want %d, %d", s, n, e, wantN, wantE)
		}
	}
	if apart == 0 {
		t.Error("no number told the fused step from the two")
	}
}

// P3.6: the chapter's examples and the edges.
func TestSeconds(t *testing.T) {
	for ms, want := range map[int64]string{
		1500: "1.5", -5: "-0.005", 0: "0", -1000: "-1",
		1: "0.001", -1: "-0.001", 10: "0.01", 100: "0.1", 120: "0.12", 123: "0.123", 101: "0.101", 999: "0.999", 1000: "1", 1001: "1.001", 1010: "1.01", 10000: "10", 100000: "100", 60000: "60", -1500: "-1.5", -999: "-0.999", -1001: "-1.001",
		minTime: "-62167219200", maxTime: "253402300799.999", math.MinInt64: "-9223372036854775.808", math.MaxInt64: "9223372036854775.807", math.MinInt64 + 1: "-9223372036854775.807", math.MinInt64 + 808: "-9223372036854775",
	} {
		if s := span.Seconds(ms); s != want {
			t.Errorf("Seconds(%d) = %q; want %q", ms, s, want)
		}
	}
	r := someRand()
	for range 50000 {
		ms := int64(r.Uint64()) >> r.IntN(64)
		s := span.Seconds(ms)
		if ratio(s).Cmp(big.NewRat(ms, 1000)) != 0 || !secondsForm.MatchString(s) || s[0] == '+' {
			t.Fatalf("Seconds(%d) = %q", ms, s)
		}
		whole, part, point := strings.Cut(strings.TrimPrefix(s, "-"), ".")
		if point && (strings.HasSuffix(part, "0") || len(part) > 3) || whole[0] == '0' && whole != "0" || (s[0] == '-') != (ms < 0) {
			t.Fatalf("Seconds(%d) = %q", ms, s)
		}
	}
}

// P3.7: the chapter's examples, the edges, and times beyond them.
func TestDate(t *testing.T) {
	for ms, want := range map[int64]string{
		0: "1970-01-01T00:00:00Z", 1: "1970-01-01T00:00:00.001Z", maxTime: "9999-12-31T23:59:59.999Z",
		minTime: "0000-01-01T00:00:00Z", minTime + 1: "0000-01-01T00:00:00.001Z", -1: "1969-12-31T23:59:59.999Z", 10: "1970-01-01T00:00:00.010Z", 100: "1970-01-01T00:00:00.100Z", 120: "1970-01-01T00:00:00.120Z", 951786123004: "2000-02-29T01:02:03.004Z", -62135596800000: "0001-01-01T00:00:00Z", -59011459200000: "0100-01-01T00:00:00Z", maxTime - 999: "9999-12-31T23:59:59Z",
	} {
		if s, e := span.Date(ms); s != want || e != api.OK {
			t.Errorf("Date(%d) = %q, %d; want %q", ms, s, e, want)
		}
	}
	for _, ms := range []int64{minTime - 1, maxTime + 1, math.MinInt64, math.MaxInt64} {
		if s, e := span.Date(ms); s != "" || e != api.ErrTime {
			t.Errorf("Date(%d) = %q, %d", ms, s, e)
		}
	}
}

// P3.5, P3.6, P3.7: there and back.
func TestTimesThereAndBack(t *testing.T) {
	for _, ms := range someTimes(50000) {
		if n, e := span.Stamp(span.Seconds(ms)); n != ms || e != api.OK {
			t.Fatalf("Stamp(Seconds(%d)) = %d, %d", ms, n, e)
		}
		s, e := span.Date(ms)
		if e != api.OK || !dateForm.MatchString(s) {
			t.Fatalf("Date(%d) = %q, %d", ms, s, e)
		}
		if n, e := span.Stamp(s); n != ms || e != api.OK {
			t.Fatalf("Stamp(Date(%d)) = %d, %d", ms, n, e)
		}
	}
}

// P3.8: the chapter's examples and the edges.
func TestStep(t *testing.T) {
	checkReadings(t, "Step", span.Step, []reading{
		{"15s", 15000, 0}, {"15", 15000, 0}, {"0.5", 500, 0}, {"+5", 5000, 0}, {"0", 0, api.ErrStep}, {"-1", 0, api.ErrStep}, {"0s", 0, api.ErrStep}, {"0.0004", 0, api.ErrStep}, {"1e3", 0, api.ErrDuration}, {"x", 0, api.ErrDuration}, {"315360000000.001", 0, api.ErrFar},

		{"1ms", 1, 0}, {"0.001", 1, 0}, {"0.0005", 1, 0}, {"0.00049", 0, api.ErrStep}, {"-0.0005", 0, api.ErrStep}, {"-0", 0, api.ErrStep}, {"0.0", 0, api.ErrStep}, {"0y0ms", 0, api.ErrStep}, {"-99999999999999999999", 0, api.ErrStep}, {"-0.001", 0, api.ErrStep}, {"1h30m", 5400000, 0}, {"01", 1000, 0},
		{"10000y", maxDur, 0}, {"10000y1ms", 0, api.ErrFar}, {"315360000000", maxDur, 0}, {"+315360000000.0004", maxDur, 0}, {"315360000000.0005", 0, api.ErrFar}, {"315359999999.9994", maxDur - 1, 0}, {"315359999999.9995", maxDur, 0}, {"99999999999999999999", 0, api.ErrFar}, {"99999999999999999999y", 0, api.ErrFar}, {"9223372036854775.808", 0, api.ErrFar}, {"315360000001", 0, api.ErrFar},
		{"", 0, api.ErrDuration}, {"-1s", 0, api.ErrDuration}, {"+1s", 0, api.ErrDuration}, {"1.5s", 0, api.ErrDuration}, {"5.", 0, api.ErrDuration}, {".5", 0, api.ErrDuration}, {"1s1m", 0, api.ErrDuration}, {"1h5", 0, api.ErrDuration}, {" 5", 0, api.ErrDuration}, {"5 ", 0, api.ErrDuration}, {"--5", 0, api.ErrDuration}, {"1970-01-01T00:00:00Z", 0, api.ErrDuration}, {"5m\x00", 0, api.ErrDuration}, {"\xff", 0, api.ErrDuration}, {"NaN", 0, api.ErrDuration},
		{strings.Repeat("0", 63) + "1", 1000, 0}, {strings.Repeat("0", 64) + "1", 0, api.ErrLong}, {strings.Repeat("0", 62) + "1s", 1000, 0}, {strings.Repeat("0", 63) + "1s", 0, api.ErrLong}, {strings.Repeat("x", 64), 0, api.ErrDuration}, {strings.Repeat("x", 65), 0, api.ErrLong}, {strings.Repeat("0", 65), 0, api.ErrLong}, {strings.Repeat("0", 64), 0, api.ErrStep}, {strings.Repeat("9", 64), 0, api.ErrFar},
	})
}
