package check_test

import (
	"fmt"
	"math"
	"regexp"
	"slices"
	"strconv"
	"strings"
	"sync"

	"weir/api"
	"weir/rxprog"
	"weir/rxtree"
)

// The chapter's words, written down a second time and in another way (types as letters, arguments as patterns of letters, the rules of a node as a list, all of it over rows), to hold the package against.

// letters: the four types, each by its letter, from 1 on: scalar, text, vector, matrix.
const letters = "-stvm"

// table: the chapter's functions: names, arguments, result.
const table = `
	avg_over_time count_over_time mad_over_time max_over_time min_over_time present_over_time stddev_over_time stdvar_over_time sum_over_time : m : v
	first_over_time last_over_time : m : v
	changes delta deriv idelta increase irate rate resets : m : v
	quantile_over_time : sm : v
	predict_linear : ms : v
	double_exponential_smoothing : mss : v
	beat_over_time : ms : v
	absent_over_time : m : v
	timestamp : v : v
	absent : v : v
	time : : s
	abs ceil deg exp floor ln log10 log2 rad sgn sqrt : v : v
	round : vs? : v
	clamp : vss : v
	clamp_max clamp_min : vs : v
	day_of_month day_of_week day_of_year days_in_month hour minute month year : v? : v
	histogram_quantile : sv : v
	label_join : vttt* : v
	label_replace : vtttt : v
	pi : : s
	scalar : v : s
	sort sort_desc : v : v
	vector : s : v`

// A known is a function of the table: the letters of its arguments, with ? behind one that may be left out and * behind one that may be left out or come again, and the letter of its result.
type known struct {
	args, result string
}

// functions: the table by its names.
var functions = sync.OnceValue(func() map[string]known {
	all := map[string]known{}
	for line := range strings.Lines(strings.TrimSpace(table)) {
		parts := strings.Split(line, ":")
		for _, name := range strings.Fields(parts[0]) {
			all[name] = known{strings.TrimSpace(parts[1]), strings.TrimSpace(parts[2])}
		}
	}
	return all
})

// ready: regexes of the library that have been made before.
var ready sync.Map

// whole: does a pattern match the whole of a text, by the library?
func whole(pattern, text string) bool {
	re, there := ready.Load(pattern)
	if !there {
		re = regexp.MustCompile(`\A(?:` + pattern + `)\z`)
		ready.Store(pattern, re)
	}
	return re.(*regexp.Regexp).MatchString(text)
}

// anyTypes: the pattern of arguments with each letter turned into a dot.
func anyTypes(args string) string {
	return strings.Map(func(r rune) rune {
		if strings.ContainsRune(letters, r) {
			return '.'
		}
		return r
	}, args)
}

// params: the letters of the aggregations' parameters.
func params() map[string]string {
	all := map[string]string{"topk": "s", "bottomk": "s", "quantile": "s", "count_values": "t"}
	for _, op := range strings.Fields("avg count group max min stddev stdvar sum") {
		all[op] = ""
	}
	return all
}

func compiles(pattern string) bool {
	x, e := rxtree.Parse(pattern)
	return e == api.OK && rxprog.Size(x) <= api.MaxInst
}

func hollow(pattern string) bool {
	x, _ := rxtree.Parse(pattern)
	return rxprog.Hollow(x)
}

func label(s string) bool {
	return whole("[A-Za-z_][A-Za-z0-9_]*", s)
}

// holdsOfEmpty: does the matcher hold of the empty text?
func holdsOfEmpty(m api.Matcher) bool {
	return []bool{m.Value == "", m.Value != "", hollow(m.Value), !hollow(m.Value)}[m.Op-1]
}

// nothing: is a duration one of 0 ms?
func nothing(dur string) bool {
	return !strings.ContainsAny(dur, "123456789")
}

// far: is what stands behind "@" no time?
func far(at string) bool {
	if at == "" || at == "start" || at == "end" {
		return false
	}
	v, err := strconv.ParseFloat(at, 64)
	if strings.HasPrefix(strings.ToLower(at), "0x") {
		v, err = strconv.ParseFloat(at+"p0", 64)
	}
	return err != nil || !(math.Floor(v*1000+0.5) <= api.MaxTime)
}

// A rule of a node: the error that comes where it is broken.
type rule struct {
	e      api.Errno
	broken bool
}

// rules: those of a row whose kids have these types (a letter each) and these texts.
func rules(r api.Row, types string, texts []string) []rule {
	text := func(i int) string {
		if i < len(texts) {
			return texts[i]
		}
		return ""
	}
	other := func(i int) bool { return !label(text(i)) }
	switch r.Kind {
	case 3:
		two := func(m api.Matcher) bool { return m.Name == "__name__" && m.Op == 1 }
		bad := func(m api.Matcher) bool { return m.Op >= 3 && !compiles(m.Value) }
		picks := func(m api.Matcher) bool { return !holdsOfEmpty(m) }
		return []rule{
			{api.ErrNameTwo, r.Text != "" && slices.ContainsFunc(r.Matchers, two)},
			{api.ErrRegex, slices.ContainsFunc(r.Matchers, bad)},
			{api.ErrBare, r.Text == "" && !slices.ContainsFunc(r.Matchers, picks)},
			{api.ErrTime, far(r.When.At)},
		}
	case 4:
		return []rule{{api.ErrWidth, nothing(r.Dur)}}
	case 5:
		return []rule{{api.ErrType, types != "v"}, {api.ErrWidth, nothing(r.Dur)}, {api.ErrWidth, r.Step != "" && nothing(r.Step)}, {api.ErrTime, far(r.When.At)}}
	case 6:
		return []rule{{api.ErrType, !whole("[sv]", types)}}
	case 7:
		return binaryRules(r, types)
	case 8:
		f, there := functions()[r.Op]
		list := []rule{{api.ErrFunction, !there}, {api.ErrArity, !whole(anyTypes(f.args), types)}, {api.ErrType, !whole(f.args, types)}}
		if r.Op == "label_replace" {
			list = append(list, rule{api.ErrGrouping, other(1)}, rule{api.ErrGrouping, other(3)}, rule{api.ErrRegex, !compiles(text(4))})
		}
		if r.Op == "label_join" {
			list = append(list, rule{api.ErrGrouping, other(1)})
			for i := 3; i < len(texts); i++ {
				list = append(list, rule{api.ErrGrouping, other(i)})
			}
		}
		return list
	case 9:
		param := params()[r.Op]
		return []rule{
			{api.ErrType, !strings.HasSuffix(types, "v")},
			{api.ErrArity, len(types) != len(param)+1},
			{api.ErrType, types != param+"v"},
			{api.ErrGrouping, r.Op == "count_values" && other(0)},
		}
	}
	return nil
}

func binaryRules(r api.Row, types string) []rule {
	comparison, set, scalar := whole("==|!=|<=?|>=?", r.Op), whole("and|or|unless", r.Op), strings.Contains(types, "s")
	m := r.Matching
	common := slices.ContainsFunc(m.Labels, func(s string) bool { return slices.Contains(m.Include, s) })
	zero := fmt.Sprint(m.Given, m.On, len(m.Labels), m.Card, len(m.Include)) == "false false 0 0 0"
	return []rule{
		{api.ErrType, !whole("[sv][sv]", types)},
		{api.ErrBool, r.Bool && !comparison},
		{api.ErrBool, !r.Bool && comparison && types == "ss"},
		{api.ErrType, set && scalar},
		{api.ErrGrouping, !zero && scalar},
		{api.ErrGrouping, set && m.Card != 0},
		{api.ErrGrouping, m.On && common},
	}
}

// resultOf: the letter of a row's type.
func resultOf(r api.Row, types string) string {
	switch r.Kind {
	case 6:
		return types
	case 7:
		if types == "ss" {
			return "s"
		}
		return "v"
	case 8:
		return functions()[r.Op].result
	}
	return []string{1: "s", 2: "t", 3: "v", 4: "m", 5: "m", 9: "v"}[r.Kind]
}

// wantedOf: what the chapter says that Check answers of the tree of rows.
func wantedOf(rows []api.Row) (int, api.Errno) {
	if len(rows) == 0 {
		return 0, api.ErrArg
	}
	letter, e, _ := head(rows)
	return max(0, strings.Index(letters, letter)), e
}

// head: the letter of the tree at the head of rows, or its first fault, and the rows behind it.
func head(rows []api.Row) (letter string, e api.Errno, rest []api.Row) {
	types, texts, rest := "", []string{}, rows[1:]
	for range rows[0].Kids {
		texts = append(texts, rest[0].Text)
		if letter, e, rest = head(rest); e != api.OK {
			return "-", e, nil
		}
		types += letter
	}
	for _, r := range rules(rows[0], types, texts) {
		if r.broken {
			return "-", r.e, nil
		}
	}
	return resultOf(rows[0], types), api.OK, rest
}
