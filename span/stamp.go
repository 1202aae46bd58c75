package span

import (
	"math"
	"strconv"
	"strings"

	"weir/api"
)

// The shapes of a date and of an offset: a 0 stands for any digit, every other byte for itself.
const (
	dateShape   = "0000-00-00T00:00:00"
	offsetShape = "00:00"
)

// Stamp: the time of a moment as a request writes it.
func Stamp(text string) (int64, api.Errno) {
	if len(text) > api.MaxSpanText {
		return 0, api.ErrLong
	}
	ms, ok := seconds(text)
	if !ok {
		ms, ok = date(text)
	}
	switch {
	case !ok:
		return 0, api.ErrStamp
	case ms < api.MinTime || ms > api.MaxTime:
		return 0, api.ErrTime
	}
	return ms, api.OK
}

// Step: the ms of a step's text, which is a duration or a number of seconds.
func Step(text string) (int64, api.Errno) {
	if len(text) > api.MaxSpanText {
		return 0, api.ErrLong
	}
	ms, ok := duration(text)
	if !ok {
		ms, ok = seconds(text)
	}
	switch {
	case !ok:
		return 0, api.ErrDuration
	case ms <= 0:
		return 0, api.ErrStep
	case ms > api.MaxDur:
		return 0, api.ErrFar
	}
	return ms, api.OK
}

// Millis: the time of a number of seconds.
func Millis(seconds float64) (int64, api.Errno) {
	ms := math.Floor(float64(seconds*1000) + 0.5)
	if ms >= api.MinTime && ms <= api.MaxTime { // a NaN is neither
		return int64(ms), api.OK
	}
	return 0, api.ErrTime
}

// Seconds: ms as a decimal number of seconds.
func Seconds(ms int64) string {
	sign, size := "", uint64(ms)
	if ms < 0 {
		sign, size = "-", -size // the least int64 has no other of its size, but a uint64 has
	}
	text := sign + strconv.FormatUint(size/1000, 10)
	if size%1000 == 0 {
		return text
	}
	return text + "." + strings.TrimRight(padded(int(size%1000), 3), "0")
}

// Date: a time as a date and a time of day.
func Date(ms int64) (string, api.Errno) {
	if ms < api.MinTime || ms > api.MaxTime {
		return "", api.ErrTime
	}
	c := Civil(ms)
	text := padded(c.Year, 4) + "-" + padded(c.Month, 2) + "-" + padded(c.Day, 2) +
		"T" + padded(c.Hour, 2) + ":" + padded(c.Minute, 2) + ":" + padded(c.Second, 2)
	if c.Milli != 0 {
		text += "." + padded(c.Milli, 3)
	}
	return text + "Z", api.OK
}

// padded: n with noughts ahead up to that many digits.
func padded(n, width int) string {
	digits := strconv.Itoa(n)
	return strings.Repeat("0", width-len(digits)) + digits
}

// seconds: the ms of a number of seconds that is the whole of s, rounded; where that is above MaxDur on either side of 0, another number that is so too.
func seconds(s string) (int64, bool) {
	s, minus := cutSign(s)
	digits := digitsAt(s)
	part, end, ok := cutFraction(s[digits:])
	if digits == 0 || !ok || end != "" {
		return 0, false
	}
	ms, half := thousandths(part)
	ms += length(s[:digits], second)
	switch {
	case minus && half > 0: // the later one of two that are equally near is nearer to 0 here
		return -ms - 1, true
	case minus:
		return -ms, true
	case half >= 0:
		return ms + 1, true
	}
	return ms, true
}

// date: the moment of a date that is the whole of s, rounded. It may lie beyond MinTime or MaxTime.
func date(s string) (int64, bool) {
	if len(s) < len(dateShape) || !hasShape(s[:len(dateShape)], dateShape) {
		return 0, false
	}
	ms, e := Moment(api.Civil{
		Year: number(s[0:4]), Month: number(s[5:7]), Day: number(s[8:10]),
		Hour: number(s[11:13]), Minute: number(s[14:16]), Second: number(s[17:19]),
	})
	part, zone, ok := cutFraction(s[len(dateShape):])
	ahead, known := offset(zone)
	if e != api.OK || !ok || !known {
		return 0, false
	}
	rest, half := thousandths(part)
	if half >= 0 {
		rest++
	}
	return ms + rest - ahead, true
}

// offset: by how many ms the clock of a zone is ahead.
func offset(zone string) (int64, bool) {
	if zone == "Z" {
		return 0, true
	}
	clock, minus := cutSign(zone)
	if len(clock) == len(zone) || !hasShape(clock, offsetShape) {
		return 0, false
	}
	ahead, e := Moment(api.Civil{Year: 1970, Month: 1, Day: 1, Hour: number(clock[0:2]), Minute: number(clock[3:5])})
	if minus {
		ahead = -ahead
	}
	return ahead, e == api.OK
}

// cutSign: s without the sign at its head, if there is one, and whether that is a minus.
func cutSign(s string) (rest string, minus bool) {
	if rest, minus = strings.CutPrefix(s, "-"); minus {
		return rest, true
	}
	return strings.TrimPrefix(s, "+"), false
}

// cutFraction: the digits behind the point at the head of s, and what stands behind them; no digits and all of s, if it begins with no point. It is false where a point has no digits.
func cutFraction(s string) (digits, rest string, ok bool) {
	behind, found := strings.CutPrefix(s, ".")
	if !found {
		return "", s, true
	}
	n := digitsAt(behind)
	return behind[:n], behind[n:], n > 0
}

// thousandths: the whole ms of a fraction's digits, and how what is left stands to half a ms: -1, 0 or 1.
func thousandths(digits string) (ms int64, half int) {
	digits += "000"
	return int64(number(digits[:3])), strings.Compare(strings.TrimRight(digits[3:], "0"), "5")
}

// hasShape: has s the shape's length, a digit for each 0 of it, and its other bytes?
func hasShape(s, shape string) bool {
	if len(s) != len(shape) {
		return false
	}
	for i := range len(s) {
		if shape[i] == '0' && digitsAt(s[i:i+1]) == 0 || shape[i] != '0' && s[i] != shape[i] {
			return false
		}
	}
	return true
}

// number: the number of a few digits.
func number(digits string) int {
	return int(upTo(9999, digits))
}
