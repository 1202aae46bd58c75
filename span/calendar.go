package span

import "weir/api"

const (
	cycleYears = 400 // the leap years come again in the same order after so many years
	cycleDays  = 146097
	longYear   = 366

	monthsOfYear = 12
	daysOfWeek   = 7

	yearsDays    = 719528 // from 0000-01-01 to 1970-01-01
	firstWeekday = 4      // 1970-01-01 is a Thursday

	lastYear = 9999
)

// Civil: the date and the time of day at ms.
func Civil(ms int64) api.Civil {
	days, rest := divided(ms, units[day].length)
	cycle, inCycle := divided(days+yearsDays, cycleDays)
	y := yearOf(inCycle)
	inYear := inCycle - daysBefore(y)
	month, inMonth := monthOf(y, inYear)
	_, weekday := divided(days+firstWeekday, daysOfWeek)
	return api.Civil{
		Year:      int(cycle*cycleYears + y),
		Month:     int(month),
		Day:       int(inMonth + 1),
		Hour:      int(rest / units[hour].length),
		Minute:    int(rest % units[hour].length / units[minute].length),
		Second:    int(rest % units[minute].length / units[second].length),
		Milli:     int(rest % units[second].length),
		Weekday:   int(weekday),
		YearDay:   int(inYear + 1),
		MonthDays: int(monthDays(y, month)),
	}
}

// Moment: the ms of a date and a time of day.
func Moment(c api.Civil) (int64, api.Errno) {
	switch {
	case !within(c.Year, 0, lastYear):
		return 0, api.ErrTime
	case !inRange(c):
		return 0, api.ErrArg
	}
	y := int64(c.Year)
	days := daysBefore(y) - yearsDays + int64(c.Day-1)
	for m := int64(1); m < int64(c.Month); m++ {
		days += monthDays(y, m)
	}
	return days*units[day].length +
		int64(c.Hour)*units[hour].length +
		int64(c.Minute)*units[minute].length +
		int64(c.Second)*units[second].length +
		int64(c.Milli), api.OK
}

// inRange: is each number of c, but for its year, in its range?
func inRange(c api.Civil) bool {
	return within(c.Month, 1, monthsOfYear) &&
		within(c.Day, 1, int(monthDays(int64(c.Year), int64(c.Month)))) &&
		within(c.Hour, 0, 23) &&
		within(c.Minute, 0, 59) &&
		within(c.Second, 0, 59) &&
		within(c.Milli, 0, 999)
}

func within(n, least, most int) bool {
	return least <= n && n <= most
}

// divided: a / b rounded down, and what is left, which isn't negative. B is positive.
func divided(a, b int64) (whole, rest int64) {
	whole, rest = a/b, a%b
	if rest < 0 {
		return whole - 1, rest + b
	}
	return whole, rest
}

func isLeap(y int64) bool {
	return y%4 == 0 && y%100 != 0 || y%400 == 0
}

// monthDays: how many days a month has.
func monthDays(y, month int64) int64 {
	switch month {
	case 2:
		if isLeap(y) {
			return 29
		}
		return 28
	case 4, 6, 9, 11:
		return 30
	}
	return 31
}

// daysBefore: how many days the years from 0 on have that stand ahead of y, which isn't negative. Year 0 is a leap year: so the leap years ahead of y are counted by rounding up.
func daysBefore(y int64) int64 {
	return 365*y + (y+3)/4 - (y+99)/100 + (y+399)/400
}

// yearOf: the year (0 to 399) that holds a day of a cycle of leap years.
func yearOf(inCycle int64) int64 {
	y := inCycle / longYear // no year is longer, so this is not too late
	for daysBefore(y+1) <= inCycle {
		y++
	}
	return y
}

// monthOf: the month that holds a day of a year (from 0 on), and which day of the month (from 0 on) it is.
func monthOf(y, inYear int64) (month, inMonth int64) {
	month = 1
	for inYear >= monthDays(y, month) {
		inYear -= monthDays(y, month)
		month++
	}
	return month, inYear
}
