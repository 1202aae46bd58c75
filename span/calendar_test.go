package span_test

import (
	"math"
	"testing"

	"weir/api"
	"weir/span"
)

const dayLength = 86400000

// date: a Civil out of its ten numbers.
func date(n ...int) api.Civil {
	return api.Civil{Year: n[0], Month: n[1], Day: n[2], Hour: n[3], Minute: n[4], Second: n[5], Milli: n[6], Weekday: n[7], YearDay: n[8], MonthDays: n[9]}
}

// P3.3: the chapter's examples, leap years and the hundreds of years, years below 0, both ends of int64.
func TestCivil(t *testing.T) {
	for ms, want := range map[int64]api.Civil{
		0:               date(1970, 1, 1, 0, 0, 0, 0, 4, 1, 31),
		-1:              date(1969, 12, 31, 23, 59, 59, 999, 3, 365, 31),
		951782400000:    date(2000, 2, 29, 0, 0, 0, 0, 2, 60, 29),
		minTime:         date(0, 1, 1, 0, 0, 0, 0, 6, 1, 31),
		minTime - 1:     date(-1, 12, 31, 23, 59, 59, 999, 5, 365, 31),
		maxTime:         date(9999, 12, 31, 23, 59, 59, 999, 5, 365, 31),
		maxTime + 1:     date(10000, 1, 1, 0, 0, 0, 0, 6, 1, 31),
		951868799999:    date(2000, 2, 29, 23, 59, 59, 999, 2, 60, 29),
		951868800000:    date(2000, 3, 1, 0, 0, 0, 0, 3, 61, 31),
		978220800000:    date(2000, 12, 31, 0, 0, 0, 0, 0, 366, 31),
		978307200000:    date(2001, 1, 1, 0, 0, 0, 0, 1, 1, 31),
		4107456000000:   date(2100, 2, 28, 0, 0, 0, 0, 0, 59, 28),
		4107542400000:   date(2100, 3, 1, 0, 0, 0, 0, 1, 60, 31),
		-2203977600000:  date(1900, 2, 28, 0, 0, 0, 0, 3, 59, 28),
		-2203891200000:  date(1900, 3, 1, 0, 0, 0, 0, 4, 60, 31),
		-62162121600000: date(0, 2, 29, 0, 0, 0, 0, 2, 60, 29),
		-62135596800000: date(1, 1, 1, 0, 0, 0, 0, 1, 1, 31),
		-74784816000001: date(-400, 2, 29, 23, 59, 59, 999, 2, 60, 29),
		-65317795200000: date(-100, 3, 1, 0, 0, 0, 0, 4, 60, 31),
		-65317795200001: date(-100, 2, 28, 23, 59, 59, 999, 3, 59, 28),
		-62288352000000: date(-4, 2, 29, 0, 0, 0, 0, 4, 60, 29),
		1e12:            date(2001, 9, 9, 1, 46, 40, 0, 0, 252, 30),
		math.MinInt64:   date(-292275055, 5, 16, 16, 47, 4, 192, 0, 136, 31),
		math.MaxInt64:   date(292278994, 8, 17, 7, 12, 55, 807, 0, 229, 31),
	} {
		if c := span.Civil(ms); c != want {
			t.Errorf("Civil(%d) = %v; want %v", ms, c, want)
		}
	}
}

// monthLengths: the days of a year's months, by the rule of leap years alone.
func monthLengths(year int) []int {
	out := []int{31, 28, 31, 30, 31, 30, 31, 31, 30, 31, 30, 31}
	if ((year%400)+400)%400 == 0 || year%4 == 0 && year%100 != 0 {
		out[1] = 29
	}
	return out
}

// walk: each day of the years from first to last, in their order, beginning with that day and weekday.
func walk(first, last int, day int64, weekday int, see func(day int64, want api.Civil)) {
	for year := first; year <= last; year++ {
		yearDay := 1
		for m, days := range monthLengths(year) {
			for d := 1; d <= days; d++ {
				see(day, api.Civil{Year: year, Month: m + 1, Day: d, Weekday: weekday, YearDay: yearDay, MonthDays: days})
				day, weekday, yearDay = day+1, (weekday+1)%7, yearDay+1
			}
		}
	}
}

// P3.3, P3.4: day by day over all years of the range, and over years ahead of 0 and behind 9999.
func TestCivilDayByDay(t *testing.T) {
	failed := 0
	see := func(day int64, want api.Civil) {
		ms := day * dayLength
		if c := span.Civil(ms); c != want {
			t.Errorf("Civil(%d) = %v; want %v", ms, c, want)
			failed++
		}
		n, e := span.Moment(want)
		if in := want.Year >= 0 && want.Year <= 9999; in && (n != ms || e != api.OK) || !in && (n != 0 || e != api.ErrTime) {
			t.Errorf("Moment(%v) = %d, %d; want %d", want, n, e, ms)
			failed++
		}
		if failed > 10 {
			t.FailNow()
		}
	}
	walk(1970, 10500, 0, 4, see)
	walk(0, 1969, -719528, 6, see)
	walk(-2000, -1, -719528-5*146097, 6, see) // 400 years have 146097 days, a whole number of weeks
}

// P3.3: the time of day, ms by ms around the ends of hours, minutes and seconds, on both sides of 0.
func TestCivilTimeOfDay(t *testing.T) {
	for _, day := range []int64{0, -1, 1, -719529, 2932896, 106751991166, -106751991167} {
		for in := int64(0); in < dayLength; in += 499 {
			got := span.Civil(day*dayLength + in)
			if got.Hour != int(in/3600000) || got.Minute != int(in/60000%60) || got.Second != int(in/1000%60) || got.Milli != int(in%1000) {
				t.Fatalf("Civil(%d) = %v", day*dayLength+in, got)
			}
			if first := span.Civil(day * dayLength); got.Day != first.Day || got.Weekday != first.Weekday || got.YearDay != first.YearDay {
				t.Fatalf("Civil(%d) = %v; the day begins with %v", day*dayLength+in, got, first)
			}
		}
	}
}

// P3.3: any int64, held against the library's calendar.
func TestCivilBesideTheLibrary(t *testing.T) {
	r := someRand()
	for range 200000 {
		ms := int64(r.Uint64()) >> r.IntN(30)
		if c := span.Civil(ms); c != civil(ms) {
			t.Fatalf("Civil(%d) = %v; want %v", ms, c, civil(ms))
		}
	}
	for i := range int64(1000) {
		for _, ms := range []int64{math.MinInt64 + i*i*i*i, math.MaxInt64 - i*i*i*i} {
			if c := span.Civil(ms); c != civil(ms) {
				t.Fatalf("Civil(%d) = %v; want %v", ms, c, civil(ms))
			}
		}
	}
}

// P3.4: there and back.
func TestMomentThereAndBack(t *testing.T) {
	for _, ms := range someTimes(50000) {
		if n, e := span.Moment(span.Civil(ms)); n != ms || e != api.OK {
			t.Fatalf("Moment(Civil(%d)) = %d, %d", ms, n, e)
		}
	}
}

// P3.4: Weekday, YearDay and MonthDays aren't looked at.
func TestMomentLooksAtSevenNumbers(t *testing.T) {
	for _, c := range []api.Civil{
		{Year: 2000, Month: 2, Day: 29, Hour: 1, Minute: 2, Second: 3, Milli: 4},
		{Year: 2000, Month: 2, Day: 29, Hour: 1, Minute: 2, Second: 3, Milli: 4, Weekday: 9, YearDay: -5, MonthDays: 28},
		{Year: 2000, Month: 2, Day: 29, Hour: 1, Minute: 2, Second: 3, Milli: 4, Weekday: math.MinInt, YearDay: math.MaxInt, MonthDays: math.MinInt},
	} {
		if n, e := span.Moment(c); n != 951786123004 || e != api.OK {
			t.Errorf("Moment(%v) = %d, %d", c, n, e)
		}
	}
}

// P3.4: each number at both ends of its range, and one beyond; the year's error comes first.
func TestMomentRanges(t *testing.T) {
	good := api.Civil{Year: 2001, Month: 4, Day: 15, Hour: 12, Minute: 30, Second: 30, Milli: 500}
	for _, c := range []struct {
		set         func(*api.Civil, int)
		least, most int
		e           api.Errno
	}{
		{func(c *api.Civil, n int) { c.Year = n }, 0, 9999, api.ErrTime},
		{func(c *api.Civil, n int) { c.Month = n }, 1, 12, api.ErrArg},
		{func(c *api.Civil, n int) { c.Day = n }, 1, 30, api.ErrArg},
		{func(c *api.Civil, n int) { c.Hour = n }, 0, 23, api.ErrArg},
		{func(c *api.Civil, n int) { c.Minute = n }, 0, 59, api.ErrArg},
		{func(c *api.Civil, n int) { c.Second = n }, 0, 59, api.ErrArg},
		{func(c *api.Civil, n int) { c.Milli = n }, 0, 999, api.ErrArg},
	} {
		for _, n := range []int{c.least, c.most} {
			in := good
			c.set(&in, n)
			if _, e := span.Moment(in); e != api.OK {
				t.Errorf("Moment(%v): error %d", in, e)
			}
		}
		for _, n := range []int{c.least - 1, c.most + 1, math.MinInt, math.MaxInt, -1 << 32, 1<<32 + c.least} {
			in := good
			c.set(&in, n)
			if ms, e := span.Moment(in); ms != 0 || e != c.e {
				t.Errorf("Moment(%v) = %d, %d; want error %d", in, ms, e, c.e)
			}
			for _, year := range []int{-1, 10000, math.MinInt, math.MaxInt} {
				in.Year = year
				if ms, e := span.Moment(in); ms != 0 || e != api.ErrTime {
					t.Errorf("Moment(%v) = %d, %d; want ErrTime", in, ms, e)
				}
			}
		}
	}
	if ms, e := span.Moment(api.Civil{}); ms != 0 || e != api.ErrArg {
		t.Errorf("Moment of nothing = %d, %d", ms, e)
	}
}

// P3.4: the last day of each month of each year, and one more.
func TestMomentDaysOfMonths(t *testing.T) {
	for year := range 10000 {
		for m, days := range monthLengths(year) {
			if _, e := span.Moment(api.Civil{Year: year, Month: m + 1, Day: days}); e != api.OK {
				t.Fatalf("year %d, month %d, day %d: error %d", year, m+1, days, e)
			}
			if ms, e := span.Moment(api.Civil{Year: year, Month: m + 1, Day: days + 1}); ms != 0 || e != api.ErrArg {
				t.Fatalf("year %d, month %d, day %d: %d, %d", year, m+1, days+1, ms, e)
			}
		}
	}
}
