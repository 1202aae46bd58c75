package pair_test

import (
	"math"
	"math/big"
	"regexp"
	"slices"
	"unicode/utf8"

	"weir/api"
	"weir/calc"
)

// What chapter 21 says, written a second time and in another way, to hold the package against.

func arithmetics() []string { return []string{"+", "-", "*", "/", "%", "^"} }

func comparisons() []string { return []string{"==", "!=", "<", "<=", ">", ">="} }

func setOperators() []string { return []string{"and", "or", "unless"} }

func operators() []string { return slices.Concat(arithmetics(), comparisons(), setOperators()) }

const room = 4400 // bits for exact sums and products of any floats

func wide(v float64) *big.Float { return new(big.Float).SetFloat64(v) }

func rounded(v *big.Float) float64 {
	out, _ := v.Float64()
	return out
}

func finite(v float64) bool { return v == v && v-v == 0 }

func negative(v float64) bool { return math.Float64bits(v)>>63 == 1 }

// signed: a number of that size, with the sign of a product or a quotient of a and b.
func signed(size, a, b float64) float64 {
	if negative(a) != negative(b) {
		return math.Float64frombits(math.Float64bits(size) | 1<<63)
	}
	return size
}

func wordsPlus(a, b float64) float64 {
	switch {
	case a != a, b != b, !finite(a) && !finite(b) && a != b:
		return nan
	case !finite(a):
		return a
	case !finite(b):
		return b
	}
	return rounded(new(big.Float).SetPrec(room).Add(wide(a), wide(b)))
}

func wordsTimes(a, b float64) float64 {
	switch {
	case a != a, b != b, a == 0 && !finite(b), !finite(a) && b == 0:
		return nan
	case !finite(a), !finite(b):
		return signed(inf, a, b)
	}
	return rounded(new(big.Float).SetPrec(room).Mul(wide(a), wide(b)))
}

func wordsOver(a, b float64) float64 {
	switch {
	case a != a, b != b, a == 0 && b == 0, !finite(a) && !finite(b):
		return nan
	case b == 0, !finite(a):
		return signed(inf, a, b)
	case a == 0, !finite(b):
		return signed(0, a, b)
	}
	out, _ := new(big.Rat).Quo(new(big.Rat).SetFloat64(a), new(big.Rat).SetFloat64(b)).Float64()
	return out
}

// wordsLeft: a less as many times b as go into it, towards 0, with the sign of a.
func wordsLeft(a, b float64) float64 {
	switch {
	case !finite(a), b != b, b == 0:
		return nan
	case !finite(b), a == 0:
		return a
	}
	x, y := new(big.Rat).SetFloat64(a), new(big.Rat).SetFloat64(b)
	q := new(big.Rat).Quo(x, y)
	n := new(big.Rat).SetInt(new(big.Int).Quo(q.Num(), q.Denom()))
	out, _ := x.Sub(x, n.Mul(n, y)).Float64()
	return signed(math.Abs(out), a, 1)
}

func wordsValue(op string, a, b float64) float64 {
	switch op {
	case "+":
		return wordsPlus(a, b)
	case "-":
		return wordsPlus(a, wordsOther(b))
	case "*":
		return wordsTimes(a, b)
	case "/":
		return wordsOver(a, b)
	case "%":
		return wordsLeft(a, b)
	}
	return calc.Pow(a, b)
}

// wordsOther: a number with the other sign.
func wordsOther(v float64) float64 { return math.Float64frombits(math.Float64bits(v) ^ 1<<63) }

// wordsHolds: which of the six hold of numbers that are alike in size, rising, falling, or can't be held against each other.
func wordsHolds(op string, a, b float64) bool {
	if a != a || b != b {
		return op == "!="
	}
	held := map[int][]string{-1: {"!=", "<", "<="}, 0: {"==", "<=", ">="}, 1: {"!=", ">", ">="}}
	return slices.Contains(held[wide(a).Cmp(wide(b))], op)
}

func oneIf(yes bool) float64 {
	return map[bool]float64{true: 1}[yes]
}

func wordsScalars(op string, a, b float64) (float64, api.Errno) {
	switch {
	case slices.Contains(arithmetics(), op):
		return wordsValue(op, a, b), 0
	case slices.Contains(comparisons(), op):
		return oneIf(wordsHolds(op, a, b)), 0
	}
	return 0, api.ErrKind
}

// wordsCompare: the first of two lists' labels, then what is behind them.
func wordsCompare(a, b []api.Label) int {
	switch {
	case len(a) == 0 && len(b) == 0:
		return 0
	case len(a) == 0:
		return -1
	case len(b) == 0:
		return 1
	case a[0].Name < b[0].Name, a[0].Name == b[0].Name && a[0].Value < b[0].Value:
		return -1
	case a[0] == b[0]:
		return wordsCompare(a[1:], b[1:])
	}
	return 1
}

var labelName = regexp.MustCompile(`\A[a-zA-Z_][0-9a-zA-Z_]*\z`)

func wordsLabelSet(ls []api.Label) bool {
	for i, l := range ls {
		if !labelName.MatchString(l.Name) || l.Value == "" || !utf8.ValidString(l.Value) || i > 0 && ls[i-1].Name >= l.Name {
			return false
		}
	}
	return true
}

func wordsSound(v []api.Elem) bool {
	for i, x := range v {
		if !wordsLabelSet(x.Labels) || slices.ContainsFunc(v[:i], func(y api.Elem) bool { return slices.Equal(x.Labels, y.Labels) }) {
			return false
		}
	}
	return true
}

// wordsAnswer: elements that come out, each put where it belongs.
func wordsAnswer(out []api.Elem) ([]api.Elem, api.Errno) {
	var made []api.Elem
	for _, x := range out {
		at := 0
		for at < len(made) && wordsCompare(made[at].Labels, x.Labels) < 0 {
			at++
		}
		if at < len(made) && wordsCompare(made[at].Labels, x.Labels) == 0 {
			return nil, api.ErrDup
		}
		made = slices.Insert(made, at, x)
	}
	return made, 0
}

// only: the labels whose names are, or aren't, in the list.
func only(ls []api.Label, names []string, in bool) []api.Label {
	return slices.DeleteFunc(slices.Clone(ls), func(l api.Label) bool { return slices.Contains(names, l.Name) != in })
}

func withoutName(ls []api.Label) []api.Label { return only(ls, []string{"__name__"}, false) }

func wordsMixed(op string, v []api.Elem, x float64, left, yes bool) ([]api.Elem, api.Errno) {
	if !wordsSound(v) {
		return nil, api.ErrVector
	}
	if _, e := wordsScalars(op, 0, 0); e != 0 {
		return nil, e
	}
	var out []api.Elem
	for _, el := range v {
		value, _ := wordsScalars(op, el.V, x)
		if left {
			value, _ = wordsScalars(op, x, el.V)
		}
		switch {
		case !yes && slices.Contains(comparisons(), op):
			if value == 1 {
				out = append(out, el)
			}
		default:
			out = append(out, api.Elem{Labels: withoutName(el.Labels), V: value})
		}
	}
	return wordsAnswer(out)
}

func wordsNegate(v []api.Elem) ([]api.Elem, api.Errno) {
	if !wordsSound(v) {
		return nil, api.ErrVector
	}
	var out []api.Elem
	for _, el := range v {
		out = append(out, api.Elem{Labels: withoutName(el.Labels), V: wordsOther(el.V)})
	}
	return wordsAnswer(out)
}

func wordsKey(ls []api.Label, m api.Matching) []api.Label {
	if m.On {
		return only(ls, m.Labels, true)
	}
	return only(ls, append([]string{"__name__"}, m.Labels...), false)
}

func wordsVectors(op string, l, r []api.Elem, m api.Matching, yes bool) ([]api.Elem, api.Errno) {
	set := slices.Contains(setOperators(), op)
	switch {
	case !wordsSound(l), !wordsSound(r):
		return nil, api.ErrVector
	case !slices.Contains(operators(), op):
		return nil, api.ErrKind
	case m.Card != 0 && m.Card != 1 && m.Card != 2, set && m.Card != 0:
		return nil, api.ErrArg
	case set:
		return wordsSets(op, l, r, m)
	case m.Card == 2:
		return wordsMeet(op, r, l, m, yes)
	}
	return wordsMeet(op, l, r, m, yes)
}

// met: the elements of v that have the key of that one.
func met(x api.Elem, v []api.Elem, m api.Matching) []api.Elem {
	return slices.DeleteFunc(slices.Clone(v), func(y api.Elem) bool { return !slices.Equal(wordsKey(x.Labels, m), wordsKey(y.Labels, m)) })
}

func wordsSets(op string, l, r []api.Elem, m api.Matching) ([]api.Elem, api.Errno) {
	var out []api.Elem
	for _, x := range l {
		if op == "or" || (len(met(x, r, m)) > 0) == (op == "and") {
			out = append(out, x)
		}
	}
	for _, y := range r {
		if op == "or" && len(met(y, l, m)) == 0 {
			out = append(out, y)
		}
	}
	return wordsAnswer(out)
}

func wordsMeet(op string, many, one []api.Elem, m api.Matching, yes bool) ([]api.Elem, api.Errno) {
	for _, y := range one {
		if len(met(y, one, m)) > 1 {
			return nil, api.ErrManyToMany
		}
	}
	for _, x := range many {
		if m.Card == 0 && len(met(x, one, m)) > 0 && len(met(x, many, m)) > 1 {
			return nil, api.ErrManyToOne
		}
	}
	var out []api.Elem
	for _, x := range many {
		for _, y := range met(x, one, m) {
			a, b := x.V, y.V
			if m.Card == 2 {
				a, b = y.V, x.V
			}
			v, _ := wordsScalars(op, a, b)
			filter := !yes && slices.Contains(comparisons(), op)
			if filter && v == 0 {
				continue
			}
			if filter {
				v = a
			}
			out = append(out, api.Elem{Labels: wordsLabels(x.Labels, y.Labels, m, filter), V: v})
		}
	}
	return wordsAnswer(out)
}

// wordsLabels: rule 5 of P21.3, name by name.
func wordsLabels(many, one []api.Label, m api.Matching, filter bool) []api.Label {
	if !filter {
		many = withoutName(many)
	}
	if m.Card == 0 {
		return only(many, m.Labels, m.On)
	}
	byName := map[string]string{}
	for _, l := range many {
		byName[l.Name] = l.Value
	}
	for _, name := range m.Include {
		delete(byName, name)
		for _, l := range one {
			if l.Name == name {
				byName[name] = l.Value
			}
		}
	}
	var made []api.Label
	for name, value := range byName {
		made = append(made, api.Label{Name: name, Value: value})
	}
	slices.SortFunc(made, func(a, b api.Label) int { return wordsCompare([]api.Label{a}, []api.Label{b}) })
	return made
}
