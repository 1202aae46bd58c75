package chunk_test

import (
	"bytes"
	"math"
	"slices"
	"strings"
	"testing"

	"weir/api"
	"weir/chunk"
)

// form: the form of a list that has one.
func form(t *testing.T, s []api.Sample) []byte {
	t.Helper()
	b, e := chunk.Pack(s)
	if e != 0 {
		t.Fatalf("Pack of %d samples: %d", len(s), e)
	}
	return b
}

func checkPack(t *testing.T, s []api.Sample) {
	t.Helper()
	b, e := chunk.Pack(s)
	if want, err := wordsPack(s); e != err || !bytes.Equal(b, want) {
		t.Fatalf("Pack(%v) = %x, %d; want %x, %d", short(s), b, e, want, err)
	}
}

// short: the beginning of a list, enough to tell it.
func short(s []api.Sample) []api.Sample { return s[:min(len(s), 20)] }

// row: a stream that is written down in pieces.
func row(pieces ...string) string { return strings.ReplaceAll(strings.Join(pieces, ""), " ", "") }

// P17.1: the chapter's examples.
func TestPackExamples(t *testing.T) {
	first := row(inBits(1, 17), inBits(0, 64))
	for name, c := range map[string]struct {
		s      []api.Sample
		stream string
		b      []byte
	}{
		"none":  {nil, inBits(0, 17), []byte{0, 0, 0}},
		"one":   {[]api.Sample{at(0, 0)}, first + "0", []byte{0, 0, 128, 0, 0, 0, 0, 0, 0, 0, 0}},
		"stale": {[]api.Sample{gone(0)}, first + "111", []byte{0, 0, 128, 0, 0, 0, 0, 0, 0, 0, 112}},
		"three": {[]api.Sample{at(1000, 1.5), at(2000, 1.5), at(3000, 1.5)},
			row(inBits(3, 17), inBits(1000, 64), "110 000010 001010 11111111111", "1110 101111100111 0", "0 0"), nil},
		"V 1": {[]api.Sample{at(0, 1)}, row(first, "110 000010 001001 1111111111"), nil},
	} {
		b := form(t, c.s)
		if !bytes.Equal(b, packed(c.stream)) || c.b != nil && !bytes.Equal(b, c.b) {
			t.Errorf("%s: %x", name, b)
		}
	}
}

// P17.1: a time's two's complement, and each way of writing e at both of its ends and one beyond.
func TestPackTimes(t *testing.T) {
	for _, c := range []struct {
		t    int64
		bits string
	}{
		{0, strings.Repeat("0", 64)},
		{-1, strings.Repeat("1", 64)},
		{math.MinInt64, "1" + strings.Repeat("0", 63)},
		{math.MaxInt64, "0" + strings.Repeat("1", 63)},
		{5, strings.Repeat("0", 61) + "101"},
	} {
		if b := form(t, []api.Sample{gone(c.t)}); !bytes.Equal(b, packed(inBits(1, 17)+c.bits+"111")) {
			t.Errorf("a first time of %d: %x", c.t, b)
		}
	}
	nineOnes, zeros := strings.Repeat("1", 9), strings.Repeat("0", 12)
	for _, c := range []struct {
		e    int64
		bits string
	}{
		{0, "0"},
		{1, "10 1000000"}, {64, "10 1111111"}, {-1, "10 0111110"}, {-63, "10 0000000"},
		{65, "110 101000000"}, {256, "110" + nineOnes}, {-64, "110 010111111"}, {-255, "110 000000000"},
		{257, "1110 100100000000"}, {2048, "1110 111" + nineOnes}, {-256, "1110 011011111111"}, {-2047, "1110" + zeros},
		{2049, "1111" + inBits(2049, 64)}, {-2048, "1111" + strings.Repeat("1", 53) + "00000000000"},
		{1 << 40, "1111" + inBits(1<<40, 64)}, {-100000, "1111" + inBits(1<<64-100000, 64)},
	} {
		// the step ahead is 100001, which is written in the widest way
		s := []api.Sample{gone(0), gone(100001), gone(100001 + 100001 + c.e)}
		want := row(inBits(3, 17), inBits(0, 64), "111", "1111", inBits(100001, 64), "111", c.bits, "111")
		if b := form(t, s); !bytes.Equal(b, packed(want)) {
			t.Errorf("e %d: %s, not %s", c.e, bitsOf(b), want)
		}
		if c.e > 0 { // the second sample's e is its d
			want := row(inBits(2, 17), inBits(1<<64-7, 64), "111", c.bits, "111")
			if b := form(t, []api.Sample{gone(-7), gone(-7 + c.e)}); !bytes.Equal(b, packed(want)) {
				t.Errorf("d %d: %s, not %s", c.e, bitsOf(b), want)
			}
		}
	}
}

// P17.1: differences of times that go round.
func TestPackTimesRound(t *testing.T) {
	ones := strings.Repeat("1", 64)
	for _, c := range []struct {
		times []int64
		want  string // behind the first time, the values' bits left away
	}{
		{[]int64{math.MinInt64, math.MaxInt64}, "10 0111110"}, // d is 2^64 - 1: -1
		{[]int64{math.MinInt64, math.MaxInt64 - 62}, "10 0000000"},
		{[]int64{math.MinInt64, math.MaxInt64 - 63}, "110 010111111"},
		{[]int64{math.MinInt64, 0}, "1111 1" + strings.Repeat("0", 63)}, // 2^63: -2^63
		{[]int64{math.MinInt64, -1}, "1111 0" + ones[1:]},
		{[]int64{math.MinInt64, math.MaxInt64 - 1, math.MaxInt64}, "10 0111101 | 10 1000010"},                                     // -2, then 1: 3
		{[]int64{math.MinInt64, math.MinInt64 + 1, math.MaxInt64}, "10 1000000 | 10 0111100"},                                     // 1, then -2: -3
		{[]int64{math.MinInt64, 0, math.MaxInt64}, "1111 1" + strings.Repeat("0", 63) + "| 10 0111110"},                           // d 2^63, then 2^63 - 1
		{[]int64{-1 << 62, 1, 2}, "1111" + inBits(1<<62+1, 64) + "| 1111" + inBits(1<<64-1<<62, 64)},                              // steps 2^62 + 1, then 1
		{[]int64{math.MinInt64, -1, math.MaxInt64}, "1111 0" + ones[1:] + "| 10 1000000"},                                         // steps 2^63 - 1, then 2^63
		{[]int64{math.MinInt64, math.MinInt64 + 2, 1}, "10 1000001 | 1111" + inBits(1<<63-3, 64)},                                 // steps 2, then 2^63 - 1
		{[]int64{math.MinInt64, math.MinInt64 + 1, 2}, "10 1000000 | 1111" + inBits(1<<63, 64)},                                   // steps 1, then 2^63 + 1: e is -2^63
		{[]int64{math.MinInt64, math.MinInt64 + 1, math.MaxInt64 - 3, math.MaxInt64}, "10 1000000 | 10 0111001 | 10 1000111"},     // 1, -5, 3
		{[]int64{math.MinInt64, math.MinInt64 + 300, math.MaxInt64 - 3}, "1110" + inBits(2347, 12) + "| 1110" + inBits(1443, 12)}, // steps 300, then -304: e is -604
	} {
		var s []api.Sample
		for _, t := range c.times {
			s = append(s, gone(t))
		}
		want := row(inBits(uint64(len(s)), 17), inBits(uint64(c.times[0]), 64))
		for _, bits := range strings.Split(c.want, "|") {
			want = row(want, "111", bits)
		}
		if b := form(t, s); !bytes.Equal(b, packed(want+"111")) {
			t.Errorf("%d: %s, not %s", c.times, bitsOf(b), want)
		}
	}
}

// P17.1: values: one that is the one ahead, a first frame, one that still does, one that must be set anew; stale ones, which leave all as it is.
func TestPackValues(t *testing.T) {
	nan, minus := math.NaN(), math.Copysign(0, -1)
	for _, c := range []struct {
		name   string
		values []float64 // 99: a stale sample
		want   string
	}{
		{"a nought", []float64{0, 0}, "0 | 0"},
		{"a nought of minus", []float64{minus, minus}, "110 000000 000000 1 | 0"},
		{"both noughts", []float64{0, minus, 0, minus}, "0 | 110 000000 000000 1 | 10 1 | 10 1"},
		{"the same", []float64{1, 1, 1}, "110 000010 001001 1111111111 | 0 | 0"},
		{"a frame that does", []float64{1, 1.5, 1}, "110 000010 001001 1111111111 | 110 001100 000000 1 | 10 1"},
		{"one that doesn't by its end", []float64{bitsAs(3 << 8), bitsAs(2 << 8), bitsAs(2<<8 + 1<<7)}, "110 110110 000001 11 | 10 01 | 110 111000 000000 1"},
		{"one that doesn't by its beginning", []float64{bitsAs(3 << 8), bitsAs(1 << 8), bitsAs(5 << 8), bitsAs(5 << 8), bitsAs(1 << 8)}, "110 110110 000001 11 | 10 10 | 110 110101 000000 1 | 0 | 10 1"},
		{"a wide one stays", []float64{bitsAs(0xF0F0), bitsAs(0xF0E0), bitsAs(0x70E0), bitsAs(0x70F0)}, "110 110000 001011 111100001111 | 10 000000000001 | 10 100000000000 | 10 000000000001"},
		{"all 64 bits", []float64{bitsAs(1<<63 | 1), 0, bitsAs(4)}, "110 000000 111111 1" + strings.Repeat("0", 62) + "1 | 10 1" + strings.Repeat("0", 62) + "1 | 10" + inBits(4, 64)},
		{"the lowest bit", []float64{bitsAs(1), bitsAs(0), bitsAs(2)}, "110 111111 000000 1 | 10 1 | 110 111110 000000 1"},
		{"a stale one first", []float64{99, 1, 99, 1}, "111 | 110 000010 001001 1111111111 | 111 | 0"},
		{"stale ones between", []float64{bitsAs(1), 99, 99, 0, 99, bitsAs(1), 99}, "110 111111 000000 1 | 111 | 111 | 10 1 | 111 | 10 1 | 111"},
		{"an infinity", []float64{math.Inf(1), math.Inf(-1), math.Inf(-1)}, "110 000001 001010 11111111111 | 110 000000 000000 1 | 0"},
		{"NaNs", []float64{nan, nan, bitsAs(0xFFF0000000000001), 0}, "110 000001 111110 111111111111" + strings.Repeat("0", 50) + "1 | 0 | 0 | 10 111111111111" + strings.Repeat("0", 50) + "1"},
	} {
		var s []api.Sample
		for i, v := range c.values {
			s = append(s, at(int64(i), v))
			if v == 99 {
				s[i].Stale = true
			}
		}
		stream := row(inBits(uint64(len(s)), 17), inBits(0, 64))
		for i, bits := range strings.Split(c.want, "|") {
			stream = row(stream, []string{"", "10 1000000", "0"}[min(i, 2)], bits)
		}
		if b := form(t, s); !bytes.Equal(b, packed(stream)) {
			t.Errorf("%s: %s, not %s", c.name, bitsOf(b), stream)
		}
	}
}

// P17.1: ErrOrder for times that are equal or fall, wherever they stand, stale samples too; the ends of int64 don't go round.
func TestPackOrder(t *testing.T) {
	for _, times := range [][]int64{{0, 0}, {1, 0}, {math.MaxInt64, math.MinInt64}, {math.MaxInt64, math.MaxInt64}, {math.MinInt64, math.MinInt64}, {0, 5, 5}, {0, 5, 4, 6}, {5, 0, 6}, {-1, -2}, {0, math.MaxInt64, 0}, {0, math.MaxInt64, math.MinInt64}} {
		for _, stale := range []bool{false, true} {
			var s []api.Sample
			for _, t := range times {
				s = append(s, api.Sample{T: t, V: float64(t), Stale: stale})
			}
			if b, e := chunk.Pack(s); len(b) != 0 || e != api.ErrOrder {
				t.Errorf("Pack of the times %d = %x, %d", times, b, e)
			}
		}
	}
	for n := 2; n < 40; n++ {
		s := run(n)
		for i := 1; i < n; i++ {
			wrong := slices.Clone(s)
			wrong[i].T = wrong[i-1].T
			if b, e := chunk.Pack(wrong); len(b) != 0 || e != api.ErrOrder {
				t.Errorf("Pack of %d samples, the time of number %d as ahead: %x, %d", n, i, b, e)
			}
		}
	}
}

// run: n samples at equal steps.
func run(n int) []api.Sample {
	var s []api.Sample
	for i := range n {
		s = append(s, at(int64(i)*1000, float64(i%7)))
	}
	return s
}

// P17.1: MaxSamples samples are taken and one more isn't, which counts ahead of times that don't rise.
func TestPackLong(t *testing.T) {
	s := run(api.MaxSamples + 2)
	checkPack(t, s[:api.MaxSamples-1])
	checkPack(t, s[:api.MaxSamples])
	fallen := slices.Clone(s)
	fallen[1].T = fallen[0].T
	for _, n := range []int{1, 2} {
		for _, list := range [][]api.Sample{s, fallen} {
			if b, e := chunk.Pack(list[:api.MaxSamples+n]); len(b) != 0 || e != api.ErrLong {
				t.Errorf("Pack of MaxSamples and %d: %d bytes, %d", n, len(b), e)
			}
		}
	}
	if b, e := chunk.Pack(fallen[:api.MaxSamples]); len(b) != 0 || e != api.ErrOrder {
		t.Errorf("Pack of MaxSamples, times that don't rise: %d bytes, %d", len(b), e)
	}
}

// P17.1: a run at equal steps with one value costs two bits a sample.
func TestPackCost(t *testing.T) {
	var s []api.Sample
	for i := range 10000 {
		s = append(s, at(int64(i)*15000, 0.1))
	}
	b := form(t, s)
	head := len(wordsStream(s[:2]))
	if want := (head + 2*(len(s)-2) + 7) / 8; len(b) != want {
		t.Errorf("%d samples take %d bytes, not %d", len(s), len(b), want)
	}
}

// P17.1: lists made for each rule, and very many by chance, each against the words.
func TestPackWords(t *testing.T) {
	for _, s := range someLists() {
		checkPack(t, s)
	}
	c := newChance(1)
	for i := range 40000 {
		s := c.list(12)
		if i%3 == 0 && len(s) > 0 { // perhaps out of order
			s[c.dice.IntN(len(s))].T = s[c.dice.IntN(len(s))].T
		}
		checkPack(t, s)
	}
	for range 200 {
		checkPack(t, c.list(1000))
	}
}

// P17.1: each pair of values, each pair of changes.
func TestPackPairs(t *testing.T) {
	for _, a := range values() {
		for _, b := range values() {
			checkPack(t, []api.Sample{at(1, a), at(2, b), at(3, a), at(4, a), gone(5), at(6, b)})
		}
	}
	for _, from := range []int64{0, math.MinInt64, math.MaxInt64 - 10000} {
		for _, a := range scaleEnds() {
			for _, b := range scaleEnds() {
				var s []api.Sample
				for _, t := range timesOf(from, []int64{a, b, a, 0}) {
					s = append(s, at(t, 1))
				}
				checkPack(t, s)
			}
		}
	}
}
