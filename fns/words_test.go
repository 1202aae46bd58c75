package fns_test

import (
	"fmt"
	"maps"
	"math"
	"math/big"
	"regexp"
	"slices"
	"strings"
	"sync"
	"time"
	"unicode/utf8"

	"weir/api"
	"weir/calc"
	"weir/num"
	"weir/rx"
)

// What chapter 23 says, written a second time and in another way, to hold the package against. What it leaves to layers 2, 6 and 10 is left to them here too.

// A signature: which arguments a function takes.
type signature struct {
	types []int
	least int
	more  bool
}

// signatures: layer 14's second table, row by row.
var signatures = sync.OnceValue(func() map[string]signature {
	const scalar, text, vector = api.ValScalar, api.ValString, api.ValVector
	out := map[string]signature{
		"round":              {types: []int{vector, scalar}, least: 1},
		"clamp":              {types: []int{vector, scalar, scalar}, least: 3},
		"clamp_max":          {types: []int{vector, scalar}, least: 2},
		"clamp_min":          {types: []int{vector, scalar}, least: 2},
		"histogram_quantile": {types: []int{scalar, vector}, least: 2},
		"label_join":         {types: []int{vector, text, text, text}, least: 3, more: true},
		"label_replace":      {types: []int{vector, text, text, text, text}, least: 5},
		"pi":                 {},
		"scalar":             {types: []int{vector}, least: 1},
		"sort":               {types: []int{vector}, least: 1},
		"sort_desc":          {types: []int{vector}, least: 1},
		"vector":             {types: []int{scalar}, least: 1},
	}
	for _, name := range plainNames() {
		out[name] = signature{types: []int{vector}, least: 1}
	}
	for _, name := range calendarNames() {
		out[name] = signature{types: []int{vector}}
	}
	return out
})

func plainNames() []string {
	return strings.Fields("abs ceil deg exp floor ln log10 log2 rad sgn sqrt")
}

func calendarNames() []string {
	return strings.Fields("day_of_month day_of_week day_of_year days_in_month hour minute month year")
}

func names() []string { return slices.Sorted(maps.Keys(signatures())) }

func (s signature) takes(args []api.Value) bool {
	if len(args) < s.least || len(args) > len(s.types) && !s.more {
		return false
	}
	for i, a := range args {
		if i < len(s.types) && a.Type != s.types[i] || i >= len(s.types) && a.Type != s.types[len(s.types)-1] {
			return false
		}
	}
	return true
}

var labelName = regexp.MustCompile(`\A[a-zA-Z_][0-9a-zA-Z_]*\z`)

// wordsCompare: the first of two lists' labels, then what is behind them.
func wordsCompare(a, b []api.Label) int {
	switch {
	case len(a) == 0 && len(b) == 0:
		return 0
	case len(a) == 0:
		return -1
	case len(b) == 0:
		return 1
	case a[0].Name < b[0].Name, a[0].Name == b[0].Name && a[0].Value < b[0].Value:
		return -1
	case a[0] == b[0]:
		return wordsCompare(a[1:], b[1:])
	}
	return 1
}

func wordsLabelSet(ls []api.Label) bool {
	for i, l := range ls {
		if !labelName.MatchString(l.Name) || l.Value == "" || !utf8.ValidString(l.Value) || i > 0 && ls[i-1].Name >= l.Name {
			return false
		}
	}
	return true
}

func wordsSound(v []api.Elem) bool {
	for i, x := range v {
		if !wordsLabelSet(x.Labels) || slices.ContainsFunc(v[:i], func(y api.Elem) bool { return slices.Equal(x.Labels, y.Labels) }) {
			return false
		}
	}
	return true
}

// canonical: the elements, each put where it belongs.
func canonical(v []api.Elem) []api.Elem {
	var made []api.Elem
	for _, x := range v {
		at := 0
		for at < len(made) && wordsCompare(made[at].Labels, x.Labels) <= 0 {
			at++
		}
		made = slices.Insert(made, at, x)
	}
	return made
}

// answerOf: elements as an answer, if no two of them have one label set.
func answerOf(v []api.Elem) ([]api.Elem, api.Errno) {
	if !wordsSound(v) {
		return nil, api.ErrDup
	}
	return canonical(v), 0
}

// relabelled: labels with one more, or another, or none of that name: as a map, and back.
func relabelled(ls []api.Label, name, value string) []api.Label {
	all := map[string]string{}
	for _, l := range ls {
		all[l.Name] = l.Value
	}
	all[name] = value
	var made []api.Label
	for _, n := range slices.Sorted(maps.Keys(all)) {
		if all[n] != "" {
			made = append(made, api.Label{Name: n, Value: all[n]})
		}
	}
	return made
}

func valueOf(ls []api.Label, name string) string {
	for _, l := range ls {
		if l.Name == name {
			return l.Value
		}
	}
	return ""
}

func wordsCall(name string, args []api.Value, at int64) (api.Value, api.Errno) {
	s, ok := signatures()[name]
	if !ok {
		return api.Value{}, api.ErrKind
	}
	if !s.takes(args) {
		return api.Value{}, api.ErrArg
	}
	var v []api.Elem
	var numbers []float64
	var texts []string
	for _, a := range args {
		switch a.Type {
		case api.ValVector:
			v = a.Vector
		case api.ValScalar:
			numbers = append(numbers, a.V)
		case api.ValString:
			texts = append(texts, a.Text)
		}
	}
	if !wordsSound(v) {
		return api.Value{}, api.ErrVector
	}
	switch name {
	case "pi":
		return numberArg(math.Float64frombits(0x400921FB54442D18)), 0
	case "scalar":
		if len(v) == 1 {
			return numberArg(v[0].V), 0
		}
		return numberArg(nan), 0
	}
	if slices.Contains(calendarNames(), name) && len(args) == 0 {
		v = []api.Elem{{V: float64(at) / 1000}}
	}
	out, e := wordsVector(name, v, numbers, texts)
	if e != 0 {
		return api.Value{}, e
	}
	return vectorArg(out), 0
}

// wordsVector: what a function that answers a vector makes of its arguments.
func wordsVector(name string, v []api.Elem, numbers []float64, texts []string) ([]api.Elem, api.Errno) {
	switch name {
	case "vector":
		return []api.Elem{{V: numbers[0]}}, 0
	case "sort", "sort_desc":
		return wordsSort(v, name == "sort_desc")
	case "histogram_quantile":
		return wordsHistogram(numbers[0], v)
	case "label_replace":
		return wordsReplace(v, texts[0], texts[1], texts[2], texts[3])
	case "label_join":
		return wordsJoin(v, texts[0], texts[1], texts[2:])
	case "clamp":
		if numbers[0] > numbers[1] {
			return nil, 0
		}
	}
	var out []api.Elem
	for _, x := range v {
		out = append(out, api.Elem{Labels: relabelled(x.Labels, "__name__", ""), V: wordsTurn(name, x.V, numbers)})
	}
	return answerOf(out)
}

func finite(v float64) bool { return v == v && v < inf && v > -inf }

// wordsTurn: a value turned.
func wordsTurn(name string, v float64, numbers []float64) float64 {
	switch name {
	case "abs":
		return math.Float64frombits(math.Float64bits(v) &^ (1 << 63))
	case "ceil":
		return -wordsFloor(-v)
	case "floor":
		return wordsFloor(v)
	case "exp":
		return calc.Exp(v)
	case "ln":
		return calc.Ln(v)
	case "log2":
		return calc.Log2(v)
	case "log10":
		return calc.Log10(v)
	case "deg":
		return rounded(rounded(v, 180, (*big.Rat).Mul), wordsPi(), (*big.Rat).Quo)
	case "rad":
		return rounded(rounded(v, wordsPi(), (*big.Rat).Mul), 180, (*big.Rat).Quo)
	case "sgn":
		return map[bool]float64{v < 0: -1, v > 0: 1, !(v < 0) && !(v > 0): v}[true]
	case "sqrt":
		return wordsRoot(v)
	case "round":
		return calc.Round(v, append(numbers, 1)[0])
	case "clamp":
		return wordsClamp(v, numbers, "between")
	case "clamp_min", "clamp_max":
		return wordsClamp(v, numbers, name)
	}
	return wordsField(name, v)
}

// wordsPi: by the whole numbers that make it.
func wordsPi() float64 {
	v, _ := new(big.Rat).SetFrac64(3141592653589793, 1000000000000000).Float64()
	return v
}

// rounded: the operation on exact numbers, rounded once; where one of them has no finite value, or is 0, the signs alone count.
func rounded(a, b float64, op func(z, x, y *big.Rat) *big.Rat) float64 {
	if !finite(a) || a == 0 {
		return a
	}
	v, _ := op(new(big.Rat), new(big.Rat).SetFloat64(a), new(big.Rat).SetFloat64(b)).Float64()
	return math.Copysign(v, a)
}

// wordsFloor: the whole number that is left of an exact one, and 1 less, if it is above it.
func wordsFloor(v float64) float64 {
	if !finite(v) || v == 0 {
		return v
	}
	whole, _ := big.NewFloat(v).Int(nil)
	if big.NewFloat(v).Cmp(new(big.Float).SetInt(whole)) < 0 {
		whole.Sub(whole, big.NewInt(1))
	}
	out, _ := new(big.Float).SetInt(whole).Float64()
	return out
}

func wordsRoot(v float64) float64 {
	switch {
	case v < 0:
		return nan
	case !finite(v) || v == 0:
		return v
	}
	root, _ := new(big.Float).SetPrec(300).Sqrt(big.NewFloat(v)).Float64()
	return root
}

func wordsClamp(v float64, numbers []float64, name string) float64 {
	for _, x := range append(numbers, v) {
		if x != x {
			return nan
		}
	}
	lo, hi := numbers[0], numbers[len(numbers)-1]
	if name != "clamp_min" && v > hi {
		return hi
	}
	if name != "clamp_max" && v < lo {
		return lo
	}
	return v
}

// wordsField: by the library's calendar.
func wordsField(name string, v float64) float64 {
	f := wordsFloor(v)
	if f != f || f < -62167219200 || f > 253402300799 {
		return nan
	}
	t := time.Unix(int64(f), 0).UTC()
	return float64(map[string]int{
		"minute": t.Minute(), "hour": t.Hour(), "day_of_week": int(t.Weekday()), "day_of_month": t.Day(), "day_of_year": t.YearDay(),
		"days_in_month": t.AddDate(0, 1, 1-t.Day()).AddDate(0, 0, -1).Day(), "month": int(t.Month()), "year": t.Year(),
	}[name])
}

func wordsReplace(v []api.Elem, dst, template, src, pattern string) ([]api.Elem, api.Errno) {
	re, e := rx.Compile(pattern)
	switch {
	case !wordsSound(v):
		return nil, api.ErrVector
	case !labelName.MatchString(dst) || !labelName.MatchString(src):
		return nil, api.ErrDest
	case !utf8.ValidString(template):
		return nil, api.ErrUTF
	case e != 0:
		return nil, e
	}
	var out []api.Elem
	for _, x := range v {
		if value, ok := re.Replace(valueOf(x.Labels, src), template); ok {
			if len(value) > 8192 {
				return nil, api.ErrLong
			}
			x.Labels = relabelled(x.Labels, dst, value)
		}
		out = append(out, x)
	}
	return answerOf(out)
}

func wordsJoin(v []api.Elem, dst, sep string, srcs []string) ([]api.Elem, api.Errno) {
	switch {
	case !wordsSound(v):
		return nil, api.ErrVector
	case slices.ContainsFunc(append(slices.Clone(srcs), dst), func(name string) bool { return !labelName.MatchString(name) }):
		return nil, api.ErrDest
	case !utf8.ValidString(sep):
		return nil, api.ErrUTF
	}
	var out []api.Elem
	for _, x := range v {
		var values []string
		for _, name := range srcs {
			values = append(values, valueOf(x.Labels, name))
		}
		text := strings.Join(values, sep)
		if len(text) > 8192 {
			return nil, api.ErrLong
		}
		out = append(out, api.Elem{Labels: relabelled(x.Labels, dst, text), V: x.V})
	}
	return answerOf(out)
}

func wordsHistogram(q float64, v []api.Elem) ([]api.Elem, api.Errno) {
	if !wordsSound(v) {
		return nil, api.ErrVector
	}
	buckets := map[string][]api.Bucket{}
	rests := map[string][]api.Label{}
	for _, x := range canonical(v) {
		upper, ok := num.Parse(valueOf(x.Labels, "le"))
		if !ok {
			continue
		}
		rest := relabelled(relabelled(x.Labels, "le", ""), "__name__", "")
		key := fmt.Sprintf("%q", rest)
		buckets[key], rests[key] = append(buckets[key], api.Bucket{Upper: upper, Count: x.V}), rest
	}
	var out []api.Elem
	for key, bs := range buckets {
		out = append(out, api.Elem{Labels: rests[key], V: calc.Buckets(q, bs)})
	}
	return answerOf(out)
}

// wordsSort: of those that are left, the first one that none comes ahead of, again and again.
func wordsSort(v []api.Elem, down bool) ([]api.Elem, api.Errno) {
	if !wordsSound(v) {
		return nil, api.ErrVector
	}
	left := canonical(v)
	var out []api.Elem
	for len(left) > 0 {
		first := slices.IndexFunc(left, func(x api.Elem) bool {
			return !slices.ContainsFunc(left, func(y api.Elem) bool {
				return x.V != x.V && y.V == y.V || !down && y.V < x.V || down && y.V > x.V
			})
		})
		out = append(out, left[first])
		left = slices.Delete(left, first, first+1)
	}
	return out, 0
}

// wordsAbsent: name by name, all values for which it is asked.
func wordsAbsent(ms []api.Matcher) []api.Elem {
	values := map[string]map[string]bool{}
	for _, m := range ms {
		if m.Op == 1 && labelName.MatchString(m.Name) && m.Name != "__name__" {
			if values[m.Name] == nil {
				values[m.Name] = map[string]bool{}
			}
			values[m.Name][m.Value] = true
		}
	}
	var ls []api.Label
	for _, name := range slices.Sorted(maps.Keys(values)) {
		for value := range values[name] {
			if len(values[name]) == 1 && value != "" && utf8.ValidString(value) {
				ls = append(ls, api.Label{Name: name, Value: value})
			}
		}
	}
	return []api.Elem{{Labels: ls, V: 1}}
}
