package over_test

import (
	"math"
	"testing"

	"weir/api"
	"weir/over"
)

func checkGrown(t *testing.T, w api.Window, counter, perSecond bool, want float64) {
	t.Helper()
	v, ok := over.Extrapolate(w, counter, perSecond)
	verify(t, v, ok, want, true, "Extrapolate", w, counter, perSecond)
}

// P20.1: answers to the bit, reckoned by another program that takes the chapter's steps.
func TestExtrapolateBits(t *testing.T) {
	for _, c := range []struct {
		w                     api.Window
		increase, delta, rate uint64
	}{
		{window(0, 60000, 0, 10000, 3, 20000, 5, 30000, 8, 50000, 13), 0x402E000000000000, 0x402E000000000000, 0x3FD0000000000000},                                                                                          // neither end is far
		{window(0, 100000, 0, 30000, 3, 40000, 5, 50000, 9), 0x4022000000000000, 0x4022000000000000, 0x3FB70A3D70A3D70A},                                                                                                    // both ends are far
		{window(0, 100000, 0, 30000, 0.1, 40000, 0.2, 50000, 0.7), 0x3FEB333333333333, 0x3FECCCCCCCCCCCCC, 0x3F816872B020C49C},                                                                                              // begins near 0: before is cut short
		{window(0, 70000, 0, 12345, 0.3, 23456, 1.7, 45678, 0.9, 67891, 2.2), 0x4010259133708D60, 0x400327C164E7A807, 0x3FAD8685DA6768E9},                                                                                   // began anew once
		{window(0, 70000, 0, 12345, 7.3, 23456, 1.7, 45678, 0.9, 67891, 0.2), 0x400C3A9643DC200B, 0xC021E523D4294206, 0x3FA9CF2A4CAC000A},                                                                                   // began anew thrice
		{window(-70000, 1, 0, -69999, 0.001, -35000, 0.0011, -1, 0.007), 0x3F7893B9C3A4BB34, 0x3F7893B9C3A4BB34, 0x3F16785A4A45791B},                                                                                        // times below 0
		{window(0, 100000, 0, 30000, -0.1, 40000, 0.2, 50000, 0.7), 0x3FF3333333333333, 0x3FF3333333333333, 0x3F889374BC6A7EF9},                                                                                             // begins below 0
		{window(0, 100000, 0, 30000, 0, 40000, 0.2, 50000, 0.7), 0x3FEC000000000000, 0x3FF0CCCCCCCCCCCC, 0x3F81EB851EB851EB},                                                                                                // begins at 0
		{window(0, 7, 0, 1, 0.1, 2, 0.3, 4, 0.2, 7, 1.1), 0x3FF6666666666666, 0x3FF2AAAAAAAAAAAB, 0x4069000000000000},                                                                                                       // milliseconds
		{window(-9007199254740992, 9007199254740992, 0, -9007199254740991, 1.5, 1, 2.5, 9007199254740992, 1e9), 0x41CDCD64FF400000, 0x41CDCD64FF400000, 0x3F0D1A94A1448000},                                                 // the greatest window
		{window(-9007199254740992, 9007199254740992, 0, 5, 1.7, 12, 2.9), 0x4003333333333333, 0x4003333333333333, 0x3D42C00000000000},                                                                                       // far ends
		{window(1699999700000, 1700000000000, 0, 1699999714211, 105.25, 1699999729212, 110.5, 1699999744211, 3.125, 1699999759213, 9.375, 1699999989213, 77.7), 0x40569F6045A579AF, 0xC03E0DE85DC2AEEC, 0x3FD34DF967CE0F17}, // as it comes
	} {
		for name, bits := range map[string]uint64{"increase": c.increase, "delta": c.delta, "rate": c.rate} {
			checkCall(t, name, c.w, nil, math.Float64frombits(bits))
		}
		checkGrown(t, c.w, true, false, math.Float64frombits(c.increase))
		checkGrown(t, c.w, false, false, math.Float64frombits(c.delta))
		checkGrown(t, c.w, true, true, math.Float64frombits(c.rate))
	}
}

// ends: three points 10 seconds apart, from 100 seconds on, with ends that are so far from them.
func ends(before, behind int64, vs ...float64) api.Window {
	return window(100000-before, 120000+behind, 0, 100000, vs[0], 110000, vs[1], 120000, vs[2])
}

// P20.1, steps 2 to 4: an end that is nearer than 1.1 steps is reached, one just as far or farther is taken to be half a step away.
func TestEnds(t *testing.T) {
	for _, c := range []struct {
		before, behind int64
		a, b           float64 // how many seconds are reached
	}{
		{1, 0, 0.001, 0}, {5000, 0, 5, 0}, {10000, 0, 10, 0}, {10001, 0, 10.001, 0}, {10999, 0, 10.999, 0}, {11000, 0, 5, 0}, {11001, 0, 5, 0}, {12000, 0, 5, 0}, {20000, 0, 5, 0}, {1e12, 0, 5, 0},
		{4000, 1, 4, 0.001}, {4000, 5000, 4, 5}, {4000, 10000, 4, 10}, {4000, 10999, 4, 10.999}, {4000, 11000, 4, 5}, {4000, 11001, 4, 5}, {4000, 20000, 4, 5}, {4000, 1e12, 4, 5},
		{11000, 11000, 5, 5}, {10000, 10000, 10, 10}, {10000, 11000, 10, 5}, {11000, 10000, 5, 10}, {1e12, 1e12, 5, 5},
	} {
		w := ends(c.before, c.behind, 100, 101, 104)
		times := ((20 + c.a) + c.b) / 20
		seconds := float64(20000+c.before+c.behind) / 1000
		for _, counter := range []bool{false, true} {
			checkGrown(t, w, counter, false, 4*times)
			checkGrown(t, w, counter, true, 4*(times/seconds))
		}
	}
}

// P20.1, step 2: 1.1 steps is a rounded product: of 100 seconds it is a little more than 110, which are still reached; the next millisecond isn't.
func TestEndsAreRounded(t *testing.T) {
	for _, c := range []struct {
		before, behind int64
		times          float64
	}{{110000, 0, 2.1}, {110001, 0, 1.5}, {50000, 110000, 2.6}, {50000, 110001, 2}, {110000, 110000, 3.2}} {
		checkGrown(t, window(-c.before, 100000+c.behind, 0, 0, 50, 100000, 60), true, false, 10*c.times)
	}
}

// P20.1, step 3: a counter isn't followed to below 0; what is no counter, begins below 0 or hasn't grown is.
func TestNotBelowZero(t *testing.T) {
	for _, c := range []struct {
		vs             []float64
		increase, each float64
	}{
		{[]float64{0, 1, 4}, 4, 6}, {[]float64{minus, 1, 4}, 4, 6}, {[]float64{1, 2, 5}, 5, 6}, {[]float64{2, 3, 6}, 6, 6}, {[]float64{1.5, 2, 5.5}, 5.5, 6}, {[]float64{3, 4, 7}, 6, 6}, {[]float64{1000, 1001, 1004}, 6, 6}, // 20 seconds for 4: 10 seconds for 2
		{[]float64{-1, 0, 3}, 6, 6}, {[]float64{-least, 1, 4}, 6, 6}, {[]float64{-4, -3, 0}, 6, 6},
		{[]float64{0, 0, 0}, 0, 0}, {[]float64{5, 5, 5}, 0, 0}, {[]float64{minus, minus, minus}, 0, 0}, {[]float64{-5, -5, -5}, 0, 0},
		{[]float64{4, 1, 0}, 1.5, -6}, {[]float64{0, 3, 0}, 3, 0}, {[]float64{0, 3, 1}, 4, 1.5},
	} {
		w := ends(10000, 0, c.vs...)
		checkGrown(t, w, true, false, c.increase)
		checkGrown(t, w, false, false, c.each)
	}
}

// P20.1, step 3: how far 0 lies is asked behind the cut to half a step: with 0 between the two, and nearer than both.
func TestZeroAndFarEnds(t *testing.T) {
	for _, c := range []struct{ v1, increase float64 }{{0, 4}, {0.5, 4.5}, {1, 5}, {1.5, 5}, {2, 5}, {9, 5}} { // a is 50 seconds, cut to 5, in which it grows by 1
		checkGrown(t, ends(50000, 0, c.v1, c.v1+1, c.v1+4), true, false, c.increase)
	}
}

// P20.1, step 1: a counter that began anew, once and several times; what it was is added from the left.
func TestBeganAnew(t *testing.T) {
	for _, c := range []struct {
		vs       []float64
		increase float64
	}{
		{[]float64{5, 1}, 1}, {[]float64{5, 0}, 0}, {[]float64{5, 1, 2}, 2}, {[]float64{5, 6, 2}, 3}, {[]float64{5, 3, 1}, 4}, {[]float64{9, 4, 3, 8, 2}, 4 + 3 + 5 + 2},
		{[]float64{-1, -2}, -2}, {[]float64{5, nan, 1}, -4}, {[]float64{5, 5, 5}, 0}, {[]float64{1, 0, minus}, 0},
		{[]float64{1e16, 1, 0, 1, 0}, 2}, {[]float64{1, 0, 1e16, 0}, 1e16}, {[]float64{0, 1e16, 1, 0, 1, 0, 1, 0}, 1e16},
	} {
		w := window(0, 1000*int64(len(c.vs)), 0)
		for i, v := range c.vs {
			w.Points = append(w.Points, at(1000*int64(i+1), v))
		}
		w.From = 999 // one millisecond ahead of the first point
		n := float64(len(c.vs)) - 1
		want, _ := wordsExtrapolate(w, true, false)
		checkGrown(t, w, true, false, want)
		if grown := wordsGrowth(c.vs, true); grown != c.increase || math.Abs(want-grown) > math.Abs(grown)*0.0011/n {
			t.Errorf("%v: %v, %v; want %v", c.vs, grown, want, c.increase)
		}
	}
}

// P20.1: growths that are NaN or infinite, and values that are.
func TestEndlessGrowth(t *testing.T) {
	for _, c := range []struct {
		vs              []float64
		increase, delta float64
	}{
		{[]float64{nan, 1, 2}, nan, nan}, {[]float64{1, 2, nan}, nan, nan}, {[]float64{1, nan, 3}, 3, 3}, {[]float64{4, nan, 3}, -1.5, -1.5}, {[]float64{nan, nan, nan}, nan, nan},
		{[]float64{1, 2, inf}, inf, inf}, {[]float64{0, 2, inf}, inf, inf}, {[]float64{-inf, 2, 3}, inf, inf}, {[]float64{inf, 2, 3}, nan, -inf}, {[]float64{1, 2, -inf}, -inf, -inf}, {[]float64{inf, inf, inf}, nan, nan}, {[]float64{inf, nan, 3}, -inf, -inf}, {[]float64{1, inf, 3}, inf, 3}, {[]float64{1, -inf, 3}, 4, 3},
		{[]float64{-greatest, 0, greatest}, inf, inf}, {[]float64{greatest, 0, -greatest}, -inf, -inf}, {[]float64{0, 0, greatest}, greatest, inf}, {[]float64{0, 0, least}, least, 2 * least}, {[]float64{greatest, greatest, greatest}, 0, 0}, {[]float64{0, greatest, 1}, greatest, 1.5}, {[]float64{1, greatest, 0}, greatest, -1.5}, {[]float64{greatest, 1, greatest}, inf, 0},
	} {
		w := ends(10000, 0, c.vs...)
		checkGrown(t, w, true, false, c.increase)
		checkGrown(t, w, false, false, c.delta)
		checkCall(t, "increase", w, nil, c.increase)
		checkCall(t, "delta", w, nil, c.delta)
	}
}

// P20.1: every edge of Extrapolate at once: distances of both ends by the millisecond around the cut, with values of each sort.
func TestAroundTheCut(t *testing.T) {
	for _, step := range []int64{1, 3, 7, 10, 100, 1000, 10007, 15000, 100000} {
		edge := step * 11 / 10
		for _, before := range []int64{1, step, edge - 1, edge, edge + 1, edge + 2} {
			for _, behind := range []int64{0, step, edge - 1, edge, edge + 1, edge + 2} {
				for _, vs := range [][]float64{{0, 1, 2}, {0.3, 0.4, 1}, {7, 1, 2}, {-3, 5, 1}} {
					w := window(-max(1, before), 2*step+behind, 5, 0, vs[0], float64(step), vs[1], float64(2*step), vs[2])
					for _, counter := range []bool{false, true} {
						for _, perSecond := range []bool{false, true} {
							want, _ := wordsExtrapolate(w, counter, perSecond)
							checkGrown(t, w, counter, perSecond, want)
						}
					}
				}
			}
		}
	}
}

// P20.1: Instant: the last two points alone, with steps of several lengths; a counter that began anew and one that didn't.
func TestInstant(t *testing.T) {
	for _, c := range []struct {
		was, now, irate, idelta float64 // 2.5 seconds apart
	}{
		{1, 6, 2, 5}, {6, 1, 0.4, -5}, {5, 5, 0, 0}, {5, 0, 0, -5}, {5, minus, minus, -5}, {0, minus, minus, minus}, {minus, 0, 0, 0}, {minus, minus, 0, 0}, {-1, -6, -2.4, -5}, {-6, -1, 2, 5}, {-1, 1, 0.8, 2}, {1, -1, -0.4, -2},
		{nan, 1, nan, nan}, {1, nan, nan, nan}, {nan, nan, nan, nan}, {1, inf, inf, inf}, {inf, 1, 0.4, -inf}, {inf, inf, nan, nan}, {inf, -inf, -inf, -inf}, {-inf, 1, inf, inf}, {-inf, inf, inf, inf}, {-inf, -inf, nan, nan},
		{-greatest, greatest, inf, inf}, {greatest, -greatest, -greatest / 2.5, -inf}, {0, least, 0, least}, {least, 0, 0, -least},
	} {
		for _, w := range []api.Window{window(-1, 2500, 0, 0, c.was, 2500, c.now), window(-90000, 99999, 7, -80000, 77, -1000, -5, 0, nan, 500, c.was, 3000, c.now)} {
			for counter, want := range map[bool]float64{true: c.irate, false: c.idelta} {
				v, ok := over.Instant(w, counter)
				verify(t, v, ok, want, true, "Instant", w, counter)
			}
			checkCall(t, "irate", w, nil, c.irate)
			checkCall(t, "idelta", w, nil, c.idelta)
		}
	}
	for _, step := range []int64{1, 3, 999, 1000, 60000, 1<<53 - 1, 1 << 53} {
		w := window(-bound, bound, 0, float64(bound-step), 1, bound, 4)
		seconds := float64(step) / 1000
		checkCall(t, "irate", w, nil, 3/seconds)
		checkCall(t, "idelta", w, nil, 3)
	}
}

// P20.1: Extrapolate and Instant have no answer for fewer than two points.
func TestTooFewPoints(t *testing.T) {
	for _, w := range []api.Window{{}, even(), even(5), even(nan), {Points: []api.Sample{}, To: 9}, window(-bound, bound, 0, 0, 1)} {
		for _, counter := range []bool{false, true} {
			v, ok := over.Instant(w, counter)
			verify(t, v, ok, 0, false, "Instant", w, counter)
			for _, perSecond := range []bool{false, true} {
				v, ok := over.Extrapolate(w, counter, perSecond)
				verify(t, v, ok, 0, false, "Extrapolate", w, counter, perSecond)
			}
		}
	}
}

// P20.1: delta by the second isn't a function of queries, but Extrapolate answers it.
func TestDeltaBySecond(t *testing.T) {
	checkGrown(t, even(1, 2, 3, 4), false, true, math.Float64frombits(0x3FB1111111111110))
	times := 60.0 / 45
	checkGrown(t, even(9, 2, 3, 1), false, true, -8*(times/60))
}
