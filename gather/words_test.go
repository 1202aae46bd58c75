package gather_test

import (
	"fmt"
	"math/big"
	"regexp"
	"slices"
	"strconv"
	"strings"
	"unicode/utf8"

	"weir/api"
	"weir/calc"
)

// What chapter 22 says, written a second time and in another way, to hold the package against.

// lists: the aggregations of a whole list of values, each with what it makes of one.
func lists(param float64) map[string]func([]float64) float64 {
	return map[string]func([]float64) float64{
		"sum": calc.Sum, "avg": calc.Mean, "stdvar": calc.Variance, "stddev": calc.Spread,
		"quantile": func(l []float64) float64 { return calc.Quantile(param, l) },
	}
}

func ops() []string {
	return strings.Fields("sum avg stdvar stddev quantile count group min max topk bottomk count_values")
}

var labelName = regexp.MustCompile(`\A[a-zA-Z_][0-9a-zA-Z_]*\z`)

// wordsCompare: the first of two lists' labels, then what is behind them.
func wordsCompare(a, b []api.Label) int {
	switch {
	case len(a) == 0 && len(b) == 0:
		return 0
	case len(a) == 0:
		return -1
	case len(b) == 0:
		return 1
	case a[0].Name < b[0].Name, a[0].Name == b[0].Name && a[0].Value < b[0].Value:
		return -1
	case a[0] == b[0]:
		return wordsCompare(a[1:], b[1:])
	}
	return 1
}

func wordsLabelSet(ls []api.Label) bool {
	for i, l := range ls {
		if !labelName.MatchString(l.Name) || l.Value == "" || !utf8.ValidString(l.Value) || i > 0 && ls[i-1].Name >= l.Name {
			return false
		}
	}
	return true
}

func wordsSound(v []api.Elem) bool {
	for i, x := range v {
		if !wordsLabelSet(x.Labels) || slices.ContainsFunc(v[:i], func(y api.Elem) bool { return slices.Equal(x.Labels, y.Labels) }) {
			return false
		}
	}
	return true
}

// canonical: the elements, each put where it belongs.
func canonical(v []api.Elem) []api.Elem {
	var made []api.Elem
	for _, x := range v {
		at := 0
		for at < len(made) && wordsCompare(made[at].Labels, x.Labels) < 0 {
			at++
		}
		made = slices.Insert(made, at, x)
	}
	return made
}

// wordsGroup: the group labels of an element, name by name.
func wordsGroup(g api.Gathering, x api.Elem) []api.Label {
	stay := map[string]string{}
	for _, l := range x.Labels {
		if slices.Contains(g.Labels, l.Name) != g.Without {
			stay[l.Name] = l.Value
		}
	}
	if g.Without {
		delete(stay, "__name__")
	}
	if g.Op == "count_values" {
		stay[g.Text] = wordsShow(x.V)
	}
	var made []api.Label
	for name, value := range stay {
		made = append(made, api.Label{Name: name, Value: value})
	}
	slices.SortFunc(made, func(a, b api.Label) int { return strings.Compare(a.Name, b.Name) })
	return made
}

// wordsShow: a number as a text, by the library.
func wordsShow(v float64) string { return strconv.FormatFloat(v, 'f', -1, 64) }

// wordsGroups: the groups of a vector, in any order, each with its elements in canonical order.
func wordsGroups(g api.Gathering, v []api.Elem) [][]api.Elem {
	var groups [][]api.Elem
	places := map[string]int{}
	for _, x := range canonical(v) {
		key := fmt.Sprintf("%q", wordsGroup(g, x))
		at, ok := places[key]
		if !ok {
			at = len(groups)
			places[key] = at
			groups = append(groups, nil)
		}
		groups[at] = append(groups[at], x)
	}
	return groups
}

func wordsGather(g api.Gathering, v []api.Elem) ([]api.Elem, api.Errno) {
	switch {
	case !wordsSound(v):
		return nil, api.ErrVector
	case !slices.Contains(ops(), g.Op):
		return nil, api.ErrKind
	case g.Op == "count_values" && !labelName.MatchString(g.Text):
		return nil, api.ErrArg
	}
	var out []api.Elem
	for _, l := range wordsGroups(g, v) {
		if g.Op == "topk" || g.Op == "bottomk" {
			out = append(out, wordsBest(g, l)...)
		} else {
			out = append(out, api.Elem{Labels: wordsGroup(g, l[0]), V: wordsValue(g, l)})
		}
	}
	return canonical(out), 0
}

// wordsValue: what a group comes to.
func wordsValue(g api.Gathering, l []api.Elem) float64 {
	switch g.Op {
	case "group":
		return 1
	case "count", "count_values":
		return float64(len(l))
	case "min", "max":
		return wordsOuter(g, l)[0].V
	}
	var values []float64
	for _, x := range l {
		values = append(values, x.V)
	}
	return lists(g.Param)[g.Op](values)
}

// wordsOuter: the elements of a list none of whose elements is farther out; numbers, if there are any.
func wordsOuter(g api.Gathering, l []api.Elem) []api.Elem {
	farther := -1
	if g.Op == "max" || g.Op == "topk" {
		farther = 1
	}
	numbers := slices.DeleteFunc(slices.Clone(l), func(x api.Elem) bool { return x.V != x.V })
	if len(numbers) == 0 {
		return l
	}
	return slices.DeleteFunc(slices.Clone(numbers), func(x api.Elem) bool {
		return slices.ContainsFunc(numbers, func(y api.Elem) bool { return big.NewFloat(y.V).Cmp(big.NewFloat(x.V)) == farther })
	})
}

// wordsBest: the first of the farthest elements that are left, as often as Param says.
func wordsBest(g api.Gathering, l []api.Elem) []api.Elem {
	left := slices.Clone(l)
	var out []api.Elem
	for range wordsMost(g.Param, len(l)) {
		first := wordsOuter(g, left)[0]
		out = append(out, first)
		left = slices.DeleteFunc(left, func(x api.Elem) bool { return slices.Equal(x.Labels, first.Labels) })
	}
	return out
}

// wordsMost: how many of n things a parameter asks for, by its exact whole part.
func wordsMost(param float64, n int) int {
	if param != param {
		return 0
	}
	for k := range n {
		if big.NewFloat(param).Cmp(big.NewFloat(float64(k+1))) < 0 {
			return k
		}
	}
	return n
}
