package span_test

import (
	"math/big"
	"math/rand/v2"
	"regexp"
	"strconv"
	"strings"
	"time"

	"weir/api"
)

// The chapter's words, written down a second time and in another way, to hold the package against.

var (
	durationForm = regexp.MustCompile(`^([0-9]+y)?([0-9]+w)?([0-9]+d)?([0-9]+h)?([0-9]+m)?([0-9]+s)?([0-9]+ms)?$`)
	secondsForm  = regexp.MustCompile(`^[+-]?[0-9]+(\.[0-9]+)?$`)
	dateForm     = regexp.MustCompile(`^([0-9]{4})-([0-9]{2})-([0-9]{2})T([0-9]{2}):([0-9]{2}):([0-9]{2})(\.[0-9]+)?(Z|[+-][0-9]{2}:[0-9]{2})$`)
)

// unitLengths: the units' lengths in ms, in the order in which they stand in a duration.
func unitLengths() []int64 {
	return []int64{31536000000, 604800000, 86400000, 3600000, 60000, 1000, 1}
}

func isDuration(s string) bool { return s != "" && durationForm.MatchString(s) }

// prefix: the longest beginning that is a duration, by trying each.
func prefix(s string) int {
	for n := len(s); n > 0; n-- {
		if isDuration(s[:n]) {
			return n
		}
	}
	return 0
}

// sum: the sum of a duration.
func sum(s string) *big.Int {
	total := new(big.Int)
	for i, part := range durationForm.FindStringSubmatch(s)[1:] {
		if n, ok := new(big.Int).SetString(strings.TrimRight(part, "ywdhms"), 10); ok {
			total.Add(total, n.Mul(n, big.NewInt(unitLengths()[i])))
		}
	}
	return total
}

// parse: Parse by the chapter's words.
func parse(s string) (int64, api.Errno) {
	switch {
	case len(s) > 64:
		return 0, api.ErrLong
	case !isDuration(s):
		return 0, api.ErrDuration
	case sum(s).Cmp(big.NewInt(315360000000000)) > 0:
		return 0, api.ErrFar
	}
	return sum(s).Int64(), 0
}

// rounded: a number of seconds in ms: the whole number next below or equal to the ms and a half.
func rounded(seconds *big.Rat) *big.Int {
	x := new(big.Rat).Mul(seconds, big.NewRat(1000, 1))
	x.Add(x, big.NewRat(1, 2))
	return new(big.Int).Div(x.Num(), x.Denom()) // Div rounds down, for the denominator is positive
}

// ratio: the number that a decimal writes, which may have a plus ahead.
func ratio(s string) *big.Rat {
	r, _ := new(big.Rat).SetString(s)
	return r
}

// dateSeconds: the seconds of a date; nil, if one of its numbers isn't in its range.
func dateSeconds(s string) *big.Rat {
	f := dateForm.FindStringSubmatch(s)
	var n [7]int
	for i := 1; i <= 6; i++ {
		n[i], _ = strconv.Atoi(f[i])
	}
	at := time.Date(n[1], time.Month(n[2]), n[3], n[4], n[5], n[6], 0, time.UTC)
	if at.Format("2006-01-02T15:04:05") != s[:19] { // a number beyond its range is carried on by time.Date
		return nil
	}
	total := big.NewRat(at.Unix(), 1)
	if f[7] != "" {
		total.Add(total, ratio("0"+f[7]))
	}
	if f[8] == "Z" {
		return total
	}
	hour, _ := strconv.Atoi(f[8][1:3])
	minute, _ := strconv.Atoi(f[8][4:])
	if hour > 23 || minute > 59 {
		return nil
	}
	ahead := big.NewRat(int64(hour*3600+minute*60), 1)
	if f[8][0] == '-' {
		return total.Add(total, ahead)
	}
	return total.Sub(total, ahead)
}

// stamp: Stamp by the chapter's words.
func stamp(s string) (int64, api.Errno) {
	if len(s) > 64 {
		return 0, api.ErrLong
	}
	var meant *big.Rat
	if secondsForm.MatchString(s) {
		meant = ratio(s)
	} else if dateForm.MatchString(s) {
		meant = dateSeconds(s)
	}
	if meant == nil {
		return 0, api.ErrStamp
	}
	ms := rounded(meant)
	if ms.Cmp(big.NewInt(-62167219200000)) < 0 || ms.Cmp(big.NewInt(253402300799999)) > 0 {
		return 0, api.ErrTime
	}
	return ms.Int64(), 0
}

// step: Step by the chapter's words.
func step(s string) (int64, api.Errno) {
	var value *big.Int
	switch {
	case len(s) > 64:
		return 0, api.ErrLong
	case isDuration(s):
		value = sum(s)
	case secondsForm.MatchString(s):
		value = rounded(ratio(s))
	default:
		return 0, api.ErrDuration
	}
	switch {
	case value.Sign() <= 0:
		return 0, api.ErrStep
	case value.Cmp(big.NewInt(315360000000000)) > 0:
		return 0, api.ErrFar
	}
	return value.Int64(), 0
}

// civil: the calendar as the library has it.
func civil(ms int64) api.Civil {
	at := time.UnixMilli(ms).UTC()
	next := time.Date(at.Year(), at.Month()+1, 1, 0, 0, 0, 0, time.UTC)
	return api.Civil{
		Year: at.Year(), Month: int(at.Month()), Day: at.Day(),
		Hour: at.Hour(), Minute: at.Minute(), Second: at.Second(), Milli: at.Nanosecond() / 1000000,
		Weekday: int(at.Weekday()), YearDay: at.YearDay(), MonthDays: next.AddDate(0, 0, -1).Day(),
	}
}

func someRand() *rand.Rand { return rand.New(rand.NewPCG(3, 10)) }

// someTexts: texts that are nearly of one of the forms, made of pieces put behind one another at random.
func someTexts(count int, pieces []string, most int) []string {
	r := someRand()
	var out []string
	for range count {
		s := ""
		for range r.IntN(most + 1) {
			s += pieces[r.IntN(len(pieces))]
		}
		out = append(out, s)
	}
	return out
}

// someTimes: times of every size, and the edges of the range with their neighbours.
func someTimes(count int) []int64 {
	r := someRand()
	out := []int64{0, 1, -1, 999, 1000, -999, -1000, 86399999, 86400000, -86400000, -86400001, minTime, minTime + 1, maxTime - 1, maxTime}
	for range count {
		out = append(out, minTime+r.Int64N(maxTime-minTime+1), r.Int64N(1<<r.IntN(40))-1<<20)
	}
	return out
}

const (
	minTime = -62167219200000
	maxTime = 253402300799999
	maxDur  = 315360000000000
)
