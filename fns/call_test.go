package fns_test

import (
	"math"
	"math/rand/v2"
	"slices"
	"strings"
	"testing"

	"weir/api"
	"weir/check"
	"weir/fns"
)

// P23.1: Known knows the 31 names, and they alone.
func TestKnown(t *testing.T) {
	for _, name := range names() {
		if !fns.Known(name) {
			t.Errorf("%s isn't known", name)
		}
	}
	if n := len(names()); n != 31 {
		t.Errorf("%d names", n)
	}
	for _, name := range wrongNames() {
		if fns.Known(name) {
			t.Errorf("%.40q is known", name)
		}
	}
}

// P23.1: known are those of layer 14's functions that take no range vector and aren't layer 24's, with the arguments that layer 14 says.
func TestNamesOfQueries(t *testing.T) {
	for _, name := range check.Funcs() {
		sig, _ := check.Func(name)
		others := slices.Contains(sig.Args, api.ValMatrix) || slices.Contains([]string{"absent", "time", "timestamp"}, name)
		if fns.Known(name) == others {
			t.Errorf("Known(%q) = %t", name, !others)
		}
		own, ok := signatures()[name]
		if ok && (!slices.Equal(own.types, sig.Args) || own.least != sig.Least || own.more != sig.More) {
			t.Errorf("%s: %v; in layer 14 %v", name, own, sig)
		}
		if v, e := fns.Call(name, nil, 0); ok && e == 0 && v.Type != sig.Result {
			t.Errorf("%s answers type %d", name, v.Type)
		}
	}
}

// P23.1: the chapter's examples, and such as tell the functions apart.
func TestCallExamples(t *testing.T) {
	const two = `up{a="1"} 2.5; up{a="2"} -7`
	for _, c := range []struct {
		name string
		args []api.Value
		want string
	}{
		{"abs", args(`v:{a="1"} -2`), `{a="1"} 2`},
		{"abs", args("v:" + two), `{a="1"} 2.5; {a="2"} 7`},
		{"ceil", args("v:" + two), `{a="1"} 3; {a="2"} -7`},
		{"floor", args("v:" + two), `{a="1"} 2; {a="2"} -7`},
		{"ceil", args(`v:{} -0.5`), `{} -0`},
		{"floor", args(`v:{} 0.5`), `{} 0`},
		{"sgn", args("v:" + two), `{a="1"} 1; {a="2"} -1`},
		{"sgn", args(`v:{} NaN`), `{} NaN`},
		{"sgn", args(`v:{} -0`), `{} -0`},
		{"sqrt", args(`v:{a="1"} 2.25; {a="2"} -4; {a="3"} -0`), `{a="1"} 1.5; {a="2"} NaN; {a="3"} -0`},
		{"exp", args(`v:{} 0`), `{} 1`},
		{"ln", args(`v:{} 1`), `{} 0`},
		{"log2", args(`v:{} 8`), `{} 3`},
		{"log10", args(`v:{} 0`), `{} -Inf`},
		{"deg", args(`v:{a="1"} 3.141592653589793; {a="2"} 1`), `{a="1"} 180; {a="2"} 57.29577951308232`},
		{"rad", args(`v:{a="1"} 180; {a="2"} 1; {a="3"} -90`), `{a="1"} 3.141592653589793; {a="2"} 0.017453292519943295; {a="3"} -1.5707963267948966`},
		{"round", args(`v:{} 2.5`), `{} 3`},
		{"round", args(`v:{} 7`, 5), `{} 5`},
		{"round", args(`v:{} -2.5`, 1), `{} -2`},
		{"round", args(`v:{} 2.26`, 0.25), `{} 2.25`},
		{"round", args(`v:{} 1`, 0), `{} NaN`},
		{"clamp", args("v:"+two, -1, 2), `{a="1"} 2; {a="2"} -1`},
		{"clamp", args("v:"+two, 2, 1), ``},
		{"clamp", args(`v:up 1; down 1`, 2, 1), ``},
		{"clamp", args(`v:{} 5`, 2, 2), `{} 2`},
		{"clamp", args(`v:{} -0`, 0, 1), `{} -0`},
		{"clamp", args(`v:{} 5`, nan, 1), `{} NaN`},
		{"clamp", args(`v:{} 5`, 7, nan), `{} NaN`},
		{"clamp_min", args("v:"+two, -1), `{a="1"} 2.5; {a="2"} -1`},
		{"clamp_max", args("v:"+two, -1), `{a="1"} -1; {a="2"} -7`},
		{"hour", args(`v:{} 3600`), `{} 1`},
		{"year", args(`v:{} -1`), `{} 1969`},
		{"month", args(`v:{} 253402300800`), `{} NaN`},
		{"histogram_quantile", args(0.5, `v:h{le="1"} 2; h{le="2"} 4; h{le="+Inf"} 4`), `{} 1`},
		{"label_replace", args(`v:{a="x-y"} 1`, "b", "$2", "a", "(.*)-(.*)"), `{a="x-y",b="y"} 1`},
		{"label_join", args(`v:{a="1",b="2"} 7`, "c", "-", "a", "x", "b"), `{a="1",b="2",c="1--2"} 7`},
		{"label_join", args(`v:{a="1",b="2"} 7`, "a", "-"), `{b="2"} 7`},
		{"vector", args(3), `{} 3`},
		{"vector", args(nan), `{} NaN`},
	} {
		verify(t, c.name, c.args, 0, vectorArg(vec(c.want)), 0)
	}
	verify(t, "sort", args(`v:{a="1"} 2; {a="2"} 1; {a="3"} NaN; {a="4"} 2`), 0, vectorArg(vec(`{a="2"} 1; {a="1"} 2; {a="4"} 2; {a="3"} NaN`)), 0)
	verify(t, "sort_desc", args(`v:{a="1"} 2; {a="2"} 1; {a="3"} NaN; {a="4"} 2`), 0, vectorArg(vec(`{a="1"} 2; {a="4"} 2; {a="2"} 1; {a="3"} NaN`)), 0)
	verify(t, "hour", nil, 7200000, vectorArg([]api.Elem{{V: 2}}), 0)
	verify(t, "scalar", args(`v:up{a="1"} 2`), 0, numberArg(2), 0)
	verify(t, "scalar", args(`v:up{a="1"} 2; down 2`), 0, numberArg(nan), 0)
	verify(t, "scalar", args("v:"), 0, numberArg(nan), 0)
	verify(t, "pi", nil, 0, numberArg(3.141592653589793), 0)
	verify(t, "abs", args("v:up 1; down 1"), 0, api.Value{}, api.ErrDup)
}

// P23.1: the functions of one value, over each float at which things end, over numbers beside whole ones and by chance.
func TestValues(t *testing.T) {
	c, all := newChance(1), special()
	for range 3000 {
		all = append(all, math.Float64frombits(c.dice.Uint64()), c.dice.NormFloat64()*100)
	}
	for n := range 20 {
		for _, x := range []float64{float64(n), float64(n) + 0.5, float64(n) + 0.25} {
			all = append(all, x, -x, math.Nextafter(x, inf), -math.Nextafter(x, inf))
		}
	}
	for _, name := range append(plainNames(), "round") {
		for _, v := range all {
			checkCall(t, name, []api.Value{vectorArg([]api.Elem{{Labels: set("a", "1"), V: v}})}, 0)
		}
	}
}

// P23.1: the functions of a value and numbers, over each float at which things end.
func TestValuesAndNumbers(t *testing.T) {
	few := []float64{nan, inf, -inf, 0, minus, 1, -1, 2, 0.5, least, greatest, -greatest}
	v := line(special()...)
	for _, a := range special() {
		for _, name := range []string{"round", "clamp_min", "clamp_max"} {
			checkCall(t, name, args(v, a), 0)
		}
	}
	for _, lo := range few {
		for _, hi := range few {
			checkCall(t, "clamp", args(v, lo, hi), 0)
			checkCall(t, "clamp", args(vec(`up 1; down 2`), lo, hi), 0)
			checkCall(t, "clamp", args([]api.Elem{}, lo, hi), 0)
		}
	}
}

// P23.1: the functions of the calendar: each at times at which it turns, as a vector's value and as the time of the call.
func TestCalendar(t *testing.T) {
	c, seconds := newChance(2), special()
	for _, at := range instants() {
		s := float64(at) / 1000
		seconds = append(seconds, s, math.Nextafter(s, inf), math.Nextafter(s, -inf))
	}
	for _, s := range []float64{api.MinTime / 1000, api.MaxTime / 1000, api.MaxTime/1000 + 1} {
		seconds = append(seconds, s-1, s-0.5, math.Nextafter(s, -inf), s, math.Nextafter(s, inf), s+0.5, s+0.999, s+1)
	}
	for range 3000 {
		seconds = append(seconds, float64(c.instant())/1000, float64(c.dice.Int64N(1e12))-5e11)
	}
	for _, name := range calendarNames() {
		for part := range slices.Chunk(seconds, 50) {
			checkCall(t, name, args(line(part...)), 0)
		}
		for _, at := range instants() {
			checkCall(t, name, nil, at)
			checkCall(t, name, args("v:"), at)
			checkCall(t, name, args(`v:up{a="1"} 0`), at)
		}
		for range 500 {
			checkCall(t, name, nil, c.instant())
		}
	}
}

// P23.1: the calendar's fields, told by hand.
func TestCalendarByHand(t *testing.T) {
	fields := strings.Fields("year month day_of_month hour minute day_of_week day_of_year days_in_month")
	for _, c := range []struct {
		at   int64 // seconds
		want [8]float64
	}{
		{0, [8]float64{1970, 1, 1, 0, 0, 4, 1, 31}},
		{-1, [8]float64{1969, 12, 31, 23, 59, 3, 365, 31}},
		{951782400, [8]float64{2000, 2, 29, 0, 0, 2, 60, 29}},
		{951868799, [8]float64{2000, 2, 29, 23, 59, 2, 60, 29}},
		{4107542400, [8]float64{2100, 3, 1, 0, 0, 1, 60, 31}},
		{4107542399, [8]float64{2100, 2, 28, 23, 59, 0, 59, 28}},
		{1700000000, [8]float64{2023, 11, 14, 22, 13, 2, 318, 30}},
		{-62167219200, [8]float64{0, 1, 1, 0, 0, 6, 1, 31}},
		{253402300799, [8]float64{9999, 12, 31, 23, 59, 5, 365, 31}},
		{253402300800, [8]float64{nan, nan, nan, nan, nan, nan, nan, nan}},
		{-62167219201, [8]float64{nan, nan, nan, nan, nan, nan, nan, nan}},
	} {
		for i, name := range fields {
			verify(t, name, nil, c.at*1000, vectorArg([]api.Elem{{V: c.want[i]}}), 0)
			verify(t, name, args([]api.Elem{{Labels: set("__name__", "x", "a", "1"), V: float64(c.at)}}), 5, vectorArg([]api.Elem{{Labels: set("a", "1"), V: c.want[i]}}), 0)
		}
	}
}

// typed: an argument of a type, whichever that is; all fields are set.
func typed(kind int) api.Value {
	return api.Value{Type: kind, V: 1, Text: "a", Vector: vec(`up{a="1"} 1`)}
}

// P23.1: each function with all short lists of arguments, and with further ones: just those of the table are taken.
func TestArguments(t *testing.T) {
	lists := [][]api.Value{nil}
	for from := 0; len(lists[from]) < 4; from++ {
		for kind := range 6 {
			lists = append(lists, append(slices.Clone(lists[from]), typed(kind)))
		}
	}
	dice := rand.New(rand.NewPCG(1, 2))
	for _, name := range names() {
		taken := 0
		for _, l := range lists {
			if checkCall(t, name, l, 0) != api.ErrArg {
				taken++
			}
		}
		if s := signatures()[name]; taken == 0 && s.least < 5 {
			t.Errorf("%s was never answered", name)
		}
		for _, kind := range []int{-1, math.MinInt, math.MaxInt, 1 << 32, 1<<32 + 3} {
			checkCall(t, name, []api.Value{typed(kind)}, 0)
		}
		for range 2000 {
			var l []api.Value
			for range 4 + dice.IntN(4) {
				l = append(l, typed(2+dice.IntN(2)))
			}
			checkCall(t, name, l, 0)
			l[0] = typed(3)
			for i := 1; i < len(l)-dice.IntN(2); i++ {
				l[i] = typed(2)
			}
			checkCall(t, name, l, 0)
		}
	}
}

// P23.1: very many arguments.
func TestManyArguments(t *testing.T) {
	l := args(`v:up{a="1"} 1; up{b="x"} 2`, "c", "")
	for range 5000 {
		l = append(l, textArg("a"))
	}
	if e := checkCall(t, "label_join", l, 0); e != 0 {
		t.Errorf("%d", e)
	}
	l[len(l)-1] = numberArg(1)
	for _, name := range names() {
		verify(t, name, l, 0, api.Value{}, api.ErrArg)
	}
	verify(t, "label_join", append(l[:len(l)-1], textArg("1")), 0, api.Value{}, api.ErrDest)
}

// P23.1: texts that are no function, whatever the arguments; ErrKind comes ahead of all other errors.
func TestKind(t *testing.T) {
	for _, name := range wrongNames() {
		for _, l := range [][]api.Value{nil, args("v:up 1"), args(spoilt(nil)[0]), args(1, 2, 3)} {
			verify(t, name, l, 0, api.Value{}, api.ErrKind)
		}
	}
}

// P23.1: a vector that isn't sound, in each way: ErrVector comes behind ErrArg, and ahead of the function's own errors; also where the vector's elements count for nothing.
func TestNotSound(t *testing.T) {
	for _, base := range []string{"", `up 1`, `up 1; down 2; {a="1"} 3`} {
		for _, v := range spoilt(vec(base)) {
			for _, name := range names() {
				var l []api.Value
				for _, kind := range signatures()[name].types {
					l = append(l, map[int]api.Value{api.ValScalar: numberArg(2), api.ValString: textArg("("), api.ValVector: vectorArg(v)}[kind])
				}
				if name == "pi" || name == "vector" {
					continue
				}
				verify(t, name, l, 0, api.Value{}, api.ErrVector)
				verify(t, name, append(slices.Clone(l), numberArg(1)), 0, api.Value{}, api.ErrArg)
			}
			verify(t, "clamp", args(v, 2, 1), 0, api.Value{}, api.ErrVector)
			for _, e := range others(v) {
				if e != api.ErrVector {
					t.Errorf("%d of %s", e, told(v))
				}
			}
		}
	}
}

// others: the errors of the calls that take a vector directly, whose other arguments are wrong too.
func others(v []api.Elem) []api.Errno {
	_, e1 := fns.LabelReplace(v, "1", "\xff", "1", "(")
	_, e2 := fns.LabelReplace(v, "a", "", "a", "")
	_, e3 := fns.LabelJoin(v, "1", "\xff", []string{"1"})
	_, e4 := fns.LabelJoin(v, "a", "", nil)
	_, e5 := fns.Histogram(nan, v)
	_, e6 := fns.Sort(v, false)
	_, e7 := fns.Sort(v, true)
	return []api.Errno{e1, e2, e3, e4, e5, e6, e7}
}

// P23.1: a field of an argument that isn't its type's counts for nothing, and is zero in an answer.
func TestOtherFields(t *testing.T) {
	c := newChance(3)
	for range 6000 {
		name := pick(c, names())
		l := c.arguments(name, false)
		want, wantE := fns.Call(name, l, 0)
		for i, a := range l {
			clean := api.Value{Type: a.Type}
			switch a.Type {
			case api.ValScalar:
				clean.V = a.V
			case api.ValString:
				clean.Text = a.Text
			case api.ValVector:
				clean.Vector = a.Vector
			}
			l[i] = clean
		}
		verify(t, name, l, 0, want, wantE)
		if want.Text != "" || want.Type != api.ValScalar && !same(want.V, 0) || want.Type != api.ValVector && len(want.Vector) > 0 {
			t.Errorf("%s answers %s", name, toldValue(want))
		}
	}
}

// P23.1: elements that have one label set without the name: refused by the functions that take the name away, and by them alone.
func TestNamesFallTogether(t *testing.T) {
	v := vec(`up{a="1"} 1; down{a="1"} 1; {a="2"} 1`)
	for _, name := range append(append(plainNames(), calendarNames()...), "round", "clamp", "clamp_min", "clamp_max") {
		l := args(v, 0, 1)[:max(1, signatures()[name].least)]
		verify(t, name, l, 0, api.Value{}, api.ErrDup)
		if e := checkCall(t, name, append(args(vec(`up{a="1"} 1; down{a="2"} 1; {a="3"} 1`)), l[1:]...), 0); e != 0 {
			t.Errorf("%s: %d", name, e)
		}
	}
	for _, name := range []string{"sort", "sort_desc", "scalar"} {
		if e := checkCall(t, name, args(v), 0); e != 0 {
			t.Errorf("%s: %d", name, e)
		}
	}
}

// P23.1: an answer's order is canonical by the labels that are left: names ahead of the metric's name change it.
func TestOrderWithoutNames(t *testing.T) {
	verify(t, "abs", args(`v:a{b="2"} 2; b{b="1"} 1; c{A="9"} 9; {__a="0"} 0`), 0, vectorArg(vec(`{A="9"} 9; {__a="0"} 0; {b="1"} 1; {b="2"} 2`)), 0)
	verify(t, "abs", args(`v:b{a="1"} -1; a{a="2"} -2; a 3`), 0, vectorArg(vec(`{} 3; {a="1"} 1; {a="2"} 2`)), 0)
}

// P23.1: all functions by chance, by the words.
func TestByChance(t *testing.T) {
	c, seen := newChance(4), map[string]int{}
	errors := map[api.Errno]int{}
	for i := range 30000 {
		slips := i%2 == 0
		name := pick(c, names())
		if slips && c.one(20) {
			name = pick(c, c.wrong)
		}
		e := checkCall(t, name, c.arguments(name, slips), c.instant())
		errors[e]++
		if e == 0 {
			seen[name]++
		}
	}
	for _, name := range names() {
		if seen[name] < 300 {
			t.Errorf("%s was answered %d times", name, seen[name])
		}
	}
	for _, e := range []api.Errno{api.ErrKind, api.ErrArg, api.ErrVector, api.ErrDest, api.ErrUTF, api.ErrDup} {
		if errors[e] < 30 {
			t.Errorf("the errors were %v", errors)
		}
	}
}
