package span_test

import (
	"strconv"
	"strings"
	"testing"

	"weir/api"
	"weir/span"
)

// A reading is a text, and what is to be answered for it.
type reading struct {
	s string
	n int64
	e api.Errno
}

func checkReadings(t *testing.T, name string, call func(string) (int64, api.Errno), list []reading) {
	t.Helper()
	for _, c := range list {
		if n, e := call(c.s); n != c.n || e != c.e {
			t.Errorf("%s(%q) = %d, %d; want %d, %d", name, c.s, n, e, c.n, c.e)
		}
	}
}

// P3.1: the chapter's examples, each unit, the edges.
func TestParse(t *testing.T) {
	noughts, nines := strings.Repeat("0", 61), strings.Repeat("9", 63)
	checkReadings(t, "Parse", span.Parse, []reading{
		{"1h30m", 5400000, 0}, {"1y1ms", 31536000001, 0}, {"5ms", 5, 0}, {"01m", 60000, 0}, {"0s", 0, 0}, {"10000y", maxDur, 0}, {"10000y1ms", 0, api.ErrFar},
		{"1s1m", 0, api.ErrDuration}, {"1h1h", 0, api.ErrDuration}, {"1.5h", 0, api.ErrDuration}, {"5", 0, api.ErrDuration}, {"m", 0, api.ErrDuration}, {"", 0, api.ErrDuration},

		{"1y", 31536000000, 0}, {"1w", 604800000, 0}, {"1d", 86400000, 0}, {"1h", 3600000, 0}, {"1m", 60000, 0}, {"1s", 1000, 0}, {"1ms", 1, 0},
		{"1y2w3d4h5m6s7ms", 33019506007, 0}, {"0y0w0d0h0m0s0ms", 0, 0}, {"0ms", 0, 0}, {"1m1s1ms", 61001, 0}, {"1m1ms", 60001, 0}, {"1000ms", 1000, 0}, {"90m", 5400000, 0},

		{"315360000000000ms", maxDur, 0}, {"315360000000001ms", 0, api.ErrFar}, {"9999y365d", maxDur, 0}, {"9999y364d23h59m59s999ms", maxDur - 1, 0}, {"9999y364d23h59m59s1000ms", maxDur, 0}, {"9999y364d23h59m59s1001ms", 0, api.ErrFar},
		{"10001y", 0, api.ErrFar}, {"10000y0w0d0h0m0s0ms", maxDur, 0}, {"10000y1s", 0, api.ErrFar}, {"10001y1ms", 0, api.ErrFar}, {"521428w", 315359654400000, 0}, {"521428w4d", maxDur, 0}, {"521429w", 0, api.ErrFar}, {"3650000d", maxDur, 0}, {"3650001d", 0, api.ErrFar},
		{"87600000h", maxDur, 0}, {"87600001h", 0, api.ErrFar}, {"5256000000m", maxDur, 0}, {"5256000001m", 0, api.ErrFar}, {"315360000000s", maxDur, 0}, {"315360000001s", 0, api.ErrFar},
		{"9223372036854775807ms", 0, api.ErrFar}, {"9223372036854775808ms", 0, api.ErrFar}, {"18446744073709551616ms", 0, api.ErrFar}, {"18446744073709551617y", 0, api.ErrFar}, {"584942418y", 0, api.ErrFar}, {"99999999y999999999w99999999d99999999h9999999m9999999s9999999ms", 0, api.ErrFar},

		{noughts + "10s", 10000, 0}, {"0" + noughts + "10s", 0, api.ErrLong}, {nines + "y", 0, api.ErrFar}, {"9" + nines + "y", 0, api.ErrLong}, {noughts + "1ms", 1, 0}, {noughts + "xyz", 0, api.ErrDuration}, {nines + "x", 0, api.ErrDuration}, {nines, 0, api.ErrDuration},

		{"1ms1s", 0, api.ErrDuration}, {"1ms1ms", 0, api.ErrDuration}, {"1m1m", 0, api.ErrDuration}, {"1d1w", 0, api.ErrDuration}, {"1w1y", 0, api.ErrDuration}, {"1h1d", 0, api.ErrDuration}, {"1m1h", 0, api.ErrDuration}, {"1ms1m", 0, api.ErrDuration}, {"5mss", 0, api.ErrDuration}, {"5m s", 0, api.ErrDuration},
		{" 5m", 0, api.ErrDuration}, {"5m ", 0, api.ErrDuration}, {"5 m", 0, api.ErrDuration}, {"+5m", 0, api.ErrDuration}, {"-5m", 0, api.ErrDuration}, {"5M", 0, api.ErrDuration}, {"5Y", 0, api.ErrDuration}, {"1h30", 0, api.ErrDuration}, {"hm", 0, api.ErrDuration}, {"1hm", 0, api.ErrDuration}, {"5us", 0, api.ErrDuration}, {"0x5m", 0, api.ErrDuration}, {"1e3s", 0, api.ErrDuration}, {"1_0s", 0, api.ErrDuration},
		{"٣s", 0, api.ErrDuration}, {"5m\x00", 0, api.ErrDuration}, {"5\xff", 0, api.ErrDuration}, {"/s", 0, api.ErrDuration}, {":s", 0, api.ErrDuration}, {"1/s", 0, api.ErrDuration}, {"1:s", 0, api.ErrDuration},
	})
}

func pieces() []string {
	return []string{"0", "1", "7", "00", "59", "999", "31536", "10000", "315360000000000", "99999999999999999999", "y", "w", "d", "h", "m", "s", "ms", "1y", "2w", "3d", "4h", "5m", "6s", "7ms", "x", " ", ".", "-", "\xff"}
}

// P3.1: texts at random, held against the chapter's words.
func TestParseBesideTheWords(t *testing.T) {
	for _, s := range someTexts(60000, pieces(), 8) {
		n, e := span.Parse(s)
		if wantN, wantE := parse(s); n != wantN || e != wantE {
			t.Fatalf("Parse(%q) = %d, %d; want %d, %d", s, n, e, wantN, wantE)
		}
	}
}

// allDurations: texts with each choice of units, in their order.
func allDurations(number func(unit int) string) []string {
	var out []string
	for choice := 1; choice < 128; choice++ {
		s := ""
		for i, name := range []string{"y", "w", "d", "h", "m", "s", "ms"} {
			if choice>>i&1 == 1 {
				s += number(i) + name
			}
		}
		out = append(out, s)
	}
	return out
}

// P3.1, P3.9: every choice of units is a duration, with numbers of every kind.
func TestEveryChoiceOfUnits(t *testing.T) {
	for _, number := range []func(int) string{
		func(int) string { return "0" },
		func(int) string { return "9999" },
		func(i int) string { return "00" + strconv.Itoa(i+1) },
		func(i int) string { return strings.Repeat("9", 8-i) },
	} {
		for _, s := range allDurations(number) {
			n, e := span.Parse(s)
			if wantN, wantE := parse(s); n != wantN || e != wantE || e == api.ErrDuration {
				t.Errorf("Parse(%q) = %d, %d; want %d, %d", s, n, e, wantN, wantE)
			}
			if got := span.Prefix(s); got != len(s) {
				t.Errorf("Prefix(%q) = %d", s, got)
			}
		}
	}
}

// P3.2: the chapter's examples, the edges, and wrong arguments.
func TestText(t *testing.T) {
	for ms, want := range map[int64]string{
		5400000: "1h30m", 0: "0s", 1: "1ms", 31622400000: "1y1d", 691200000: "1w1d", maxDur: "10000y",
		999: "999ms", 1000: "1s", 1001: "1s1ms", 59999: "59s999ms", 60000: "1m", 3599999: "59m59s999ms", 3600000: "1h", 86399999: "23h59m59s999ms", 86400000: "1d", 604799999: "6d23h59m59s999ms", 604800000: "1w",
		31535999999: "52w23h59m59s999ms", 31536000000: "1y", 31449600000: "52w", 33019506007: "1y2w3d4h5m6s7ms", maxDur - 1: "9999y52w23h59m59s999ms", 60001: "1m1ms", 10: "10ms",
	} {
		if s, e := span.Text(ms); s != want || e != api.OK {
			t.Errorf("Text(%d) = %q, %d; want %q", ms, s, e, want)
		}
	}
	for _, ms := range []int64{-1, -9223372036854775808, maxDur + 1, 9223372036854775807, -maxDur} {
		if s, e := span.Text(ms); s != "" || e != api.ErrArg {
			t.Errorf("Text(%d) = %q, %d", ms, s, e)
		}
	}
}

// plain: the plain text of a duration above 0, by taking off one unit at a time.
func plain(ms int64) string {
	s := ""
	for i, name := range []string{"y", "w", "d", "h", "m", "s", "ms"} {
		n := 0
		for ms >= unitLengths()[i] {
			ms -= unitLengths()[i]
			n++
		}
		if n != 0 {
			s += strconv.Itoa(n) + name
		}
	}
	return s
}

// P3.2: there and back, and held against the chapter's words.
func TestTextThereAndBack(t *testing.T) {
	r := someRand()
	for i := range int64(60000) {
		ms := 1 + i
		if i%2 == 0 {
			ms = 1 + r.Int64N(1<<r.IntN(49))
		}
		ms = min(ms, maxDur)
		s, e := span.Text(ms)
		if e != api.OK || s != plain(ms) {
			t.Fatalf("Text(%d) = %q, %d; want %q", ms, s, e, plain(ms))
		}
		if back, e := span.Parse(s); back != ms || e != api.OK {
			t.Fatalf("Parse(Text(%d)) = %d, %d", ms, back, e)
		}
	}
}

// P3.9: the chapter's examples and the edges.
func TestPrefix(t *testing.T) {
	for s, want := range map[string]int{
		"5m30x": 2, "1ms1s": 3, "1h5": 2, "5m5m": 2, "ms": 0, "1h30m[": 5,
		"": 0, "5": 0, "5x": 0, "s": 0, "x5m": 0, " 5m": 0, "-5m": 0, "5 m": 0, "5m": 2, "5ms": 3, "5mss": 3, "5ms5ms": 3, "5s5m": 2, "5s5ms": 5, "5s5msx": 5, "5s5mx": 2, "5m5ms5s": 5, "1y1y": 2, "1w1y": 2, "1y1w1d1h1m1s1ms": 15, "1y1w1d1h1m1s1ms1ms": 15,
		"00000s": 6, "1h\xff": 2, "1h30m\x00": 5, "5M": 0, "1d.5": 2, "1.5h": 0, "20000y": 6, "1s5": 2, "1s5y": 2, "1m1": 2, "m5m": 0,
	} {
		if got := span.Prefix(s); got != want {
			t.Errorf("Prefix(%q) = %d; want %d", s, got, want)
		}
	}
}

// P3.9: neither the length nor the sum bounds it.
func TestPrefixOfLongTexts(t *testing.T) {
	digits := strings.Repeat("9", 100000)
	for s, want := range map[string]int{
		digits + "y":                           100001,
		digits:                                 0,
		digits + "y" + digits + "ms":           200003,
		digits + "y" + digits:                  100001,
		"1s" + strings.Repeat("0", 70) + "ms":  74,
		"1y" + digits + "h" + digits + "h":     100003,
		strings.Repeat("1ms", 1000):            3,
		strings.Repeat("0", 65) + "1s" + " 5m": 67,
	} {
		if got := span.Prefix(s); got != want {
			t.Errorf("Prefix(%.10q.. of %d bytes) = %d; want %d", s, len(s), got, want)
		}
	}
}

// P3.9: texts at random, held against the chapter's words.
func TestPrefixBesideTheWords(t *testing.T) {
	for _, s := range append(someTexts(60000, pieces(), 10), someTexts(20000, []string{"1", "m", "s", "ms", "1m", "1s", "1ms"}, 8)...) {
		if got := span.Prefix(s); got != prefix(s) {
			t.Fatalf("Prefix(%q) = %d; want %d", s, got, prefix(s))
		}
	}
}
