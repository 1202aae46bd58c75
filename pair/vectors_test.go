package pair_test

import (
	"slices"
	"testing"

	"weir/api"
	"weir/pair"
)

// on, ignoring: how elements find each other, one to one; left and right: many to one, what is brought behind it.
func on(names ...string) api.Matching { return api.Matching{Given: true, On: true, Labels: names} }

func ignoring(names ...string) api.Matching { return api.Matching{Given: true, Labels: names} }

func left(m api.Matching, include ...string) api.Matching {
	m.Card, m.Include = api.CardLeft, include
	return m
}

func right(m api.Matching, include ...string) api.Matching {
	m.Card, m.Include = api.CardRight, include
	return m
}

// A row is a call of Vectors with what it answers.
type row struct {
	op, l, r string
	m        api.Matching
	yes      bool
	want     string
	e        api.Errno
}

// check: the row's answer; and that Given isn't looked at.
func (c row) check(t *testing.T) {
	t.Helper()
	for range 2 {
		got, e := pair.Vectors(c.op, vec(c.l), vec(c.r), c.m, c.yes)
		verify(t, got, e, vec(c.want), c.e, "Vectors", c.op, c.l, c.r, c.m.On, c.m.Labels, c.m.Card, c.m.Include, c.yes)
		checkVectors(t, c.op, vec(c.l), vec(c.r), c.m, c.yes)
		c.m.Given = !c.m.Given
	}
}

// P21.3: the chapter's examples.
func TestVectorsExamples(t *testing.T) {
	const many = `x{a="1",b="1"} 1; x{a="1",b="2"} 2`
	for _, c := range []row{
		{op: "/", l: `x{a="1"} 6; x{a="2"} 8`, r: `y{a="1"} 3`, m: ignoring(), want: `{a="1"} 2`},
		{op: "==", l: `x{a="1"} 6`, r: `y{a="1"} 6`, m: ignoring(), want: `x{a="1"} 6`},
		{op: "+", l: many, r: `y{a="1"} 10`, m: on("a"), e: api.ErrManyToOne},
		{op: "+", l: many, r: `y{a="1"} 10`, m: left(on("a")), want: `{a="1",b="1"} 11; {a="1",b="2"} 12`},
		{op: "+", l: `x{a="1"} 1`, r: `y{a="1",c="7"} 10`, m: left(on("a"), "c"), want: `{a="1",c="7"} 11`},
		{op: "+", l: "", r: `y{a="1",b="1"} 1; y{a="1",b="2"} 2`, m: on("a"), e: api.ErrManyToMany},
		{op: "-", l: `y{a="1"} 10`, r: `x{a="1",b="1"} 1`, m: right(on("a")), want: `{a="1",b="1"} 9`},
		{op: "and", l: `x{a="1"} 1; x{a="2"} 2`, r: `y{a="2"} 0`, m: ignoring(), want: `x{a="2"} 2`},
		{op: "or", l: `x{a="1"} 1`, r: `y{a="1"} 5; y{a="2"} 6`, m: ignoring(), want: `x{a="1"} 1; y{a="2"} 6`},
	} {
		c.check(t)
	}
}

// P21.3: all fifteen operators, and which side is which, with each Card.
func TestVectorsOperators(t *testing.T) {
	const l, r = `x{a="1"} 7; x{a="2"} 2; x{a="3"} 3`, `y{a="1"} 2; y{a="2"} 7; y{a="3"} 3; y{a="4"} 1`
	for op, want := range map[string]string{
		"+": `{a="1"} 9; {a="2"} 9; {a="3"} 6`, "-": `{a="1"} 5; {a="2"} -5; {a="3"} 0`, "*": `{a="1"} 14; {a="2"} 14; {a="3"} 9`, "/": `{a="1"} 3.5; {a="2"} 0.2857142857142857; {a="3"} 1`, "%": `{a="1"} 1; {a="2"} 2; {a="3"} 0`, "^": `{a="1"} 49; {a="2"} 128; {a="3"} 27`,
		"==": `x{a="3"} 3`, "!=": `x{a="1"} 7; x{a="2"} 2`, "<": `x{a="2"} 2`, "<=": `x{a="2"} 2; x{a="3"} 3`, ">": `x{a="1"} 7`, ">=": `x{a="1"} 7; x{a="3"} 3`,
		"and": l, "unless": "", "or": l + `; y{a="4"} 1`,
	} {
		row{op: op, l: l, r: r, m: ignoring(), want: want}.check(t)
		if !slices.Contains(setOperators(), op) {
			row{op: op, l: l, r: r, m: left(ignoring()), want: want}.check(t)
		}
	}
	for op, want := range map[string]string{
		"==": `{a="1"} 0; {a="2"} 0; {a="3"} 1`, "!=": `{a="1"} 1; {a="2"} 1; {a="3"} 0`, "<": `{a="1"} 0; {a="2"} 1; {a="3"} 0`, "<=": `{a="1"} 0; {a="2"} 1; {a="3"} 1`, ">": `{a="1"} 1; {a="2"} 0; {a="3"} 0`, ">=": `{a="1"} 1; {a="2"} 0; {a="3"} 1`, "+": `{a="1"} 9; {a="2"} 9; {a="3"} 6`,
	} {
		for _, m := range []api.Matching{ignoring(), left(ignoring()), right(ignoring()), on("a"), left(on("a"))} {
			row{op: op, l: l, r: r, m: m, yes: true, want: want}.check(t)
		}
	}
	// With many on the right what comes out has the labels of the right, and a is the left one's value all the same.
	for op, want := range map[string]string{"<": `y{a="2"} 2`, ">": `y{a="1"} 7`, "==": `y{a="3"} 3`, "-": `{a="1"} 5; {a="2"} -5; {a="3"} 0`} {
		row{op: op, l: l, r: r, m: right(ignoring()), want: want}.check(t)
	}
}

// P21.3: the key, for on and ignoring, with no names, the name, names twice and texts that are no names.
func TestVectorsKeys(t *testing.T) {
	const l, r = `x{a="1",b="1"} 1`, `y{a="1",b="2"} 2`
	for _, c := range []row{
		{m: ignoring(), want: ""},
		{m: ignoring("a"), want: ""},
		{m: ignoring("b"), want: `{a="1"} 3`},
		{m: ignoring("b", "b", "", "0", "\xff"), want: `{a="1"} 3`},
		{m: ignoring("b", "__name__"), want: `{a="1"} 3`},
		{m: ignoring("b", "a"), want: `{} 3`},
		{m: on(), want: `{} 3`},
		{m: on("a"), want: `{a="1"} 3`},
		{m: on("a", "c", "a"), want: `{a="1"} 3`},
		{m: on("c"), want: `{} 3`},
		{m: on("", "0", "\xff", "a:b"), want: `{} 3`},
		{m: on("b"), want: ""},
		{m: on("a", "__name__"), want: ""},
		{m: on("__name__"), want: ""},
	} {
		c.op, c.l, c.r = "+", l, r
		c.check(t)
	}
	for _, c := range []row{
		{op: "+", m: on("__name__"), want: `{} 3`},
		{op: "<", m: on("__name__"), want: `x 1`},
		{op: "<", m: on("__name__"), yes: true, want: `{} 1`},
		{op: "<", m: on("__name__", "a"), want: ""},
		{op: "<", m: on("b"), want: `{} 1`},
		{op: "<", m: on("b", "__name__"), want: `x 1`},
		{op: "<", m: ignoring("a"), want: `x 1`},
		{op: "<", m: ignoring("a", "__name__"), want: `{} 1`},
		{op: "<", m: left(ignoring("a")), want: `x{a="1"} 1`},
		{op: "<", m: left(ignoring("a", "__name__")), want: `x{a="1"} 1`},
		{op: "<", m: right(on()), want: `x{a="2"} 1`},
		{op: "+", m: right(ignoring("a")), want: `{a="2"} 3`},
	} {
		c.l, c.r = `x{a="1"} 1`, `x{a="2"} 2`
		c.check(t)
	}
}

// P21.3, rule 5: what Include brings: labels that the one side has, that it lacks, that both have; the name; names twice, none at all, and texts that are no names.
func TestVectorsInclude(t *testing.T) {
	const many, one = `x{A="1",a="1",b="1"} 5`, `y{a="1",b="2",c="3"} 2`
	for _, c := range []row{
		{m: left(on("a")), want: `{A="1",a="1",b="1"} 7`},
		{m: left(on("a"), "c"), want: `{A="1",a="1",b="1",c="3"} 7`},
		{m: left(on("a"), "b"), want: `{A="1",a="1",b="2"} 7`},
		{m: left(on("a"), "A"), want: `{a="1",b="1"} 7`},
		{m: left(on("a"), "a"), want: `{A="1",a="1",b="1"} 7`},
		{m: left(on("a"), "d"), want: `{A="1",a="1",b="1"} 7`},
		{m: left(on("a"), "__name__"), want: `y{A="1",a="1",b="1"} 7`},
		{m: left(on("a"), "c", "b", "c", "b"), want: `{A="1",a="1",b="2",c="3"} 7`},
		{m: left(on("a"), "", "0", "\xff", "a:b", "c\x00"), want: `{A="1",a="1",b="1"} 7`},
		{m: left(on("a"), "c", "__name__", "A", "b"), want: `y{a="1",b="2",c="3"} 7`},
		{op: ">", m: left(on("a")), want: `x{A="1",a="1",b="1"} 5`},
		{op: ">", m: left(on("a"), "__name__"), want: `y{A="1",a="1",b="1"} 5`},
		{op: ">", m: left(on("a"), "__name__"), yes: true, want: `y{A="1",a="1",b="1"} 1`},
		{op: ">", m: left(on("a")), yes: true, want: `{A="1",a="1",b="1"} 1`},
		{op: "<", m: left(on("a"), "c"), want: ""},
	} {
		c.l, c.r = many, one
		if c.op == "" {
			c.op = "+"
		}
		c.check(t)
		if c.op == "+" {
			c.l, c.r, c.m.Card = one, many, api.CardRight
			c.check(t)
		}
	}
	nameless := row{op: "==", l: `x{a="1"} 5`, r: `{a="1"} 5`, m: left(ignoring(), "__name__"), want: `{a="1"} 5`}
	nameless.check(t)
	nameless.m = right(ignoring(), "__name__")
	nameless.want = `x{a="1"} 5`
	nameless.check(t)
	row{op: "+", l: `x{a="1"} 5`, r: `y{a="1"} 5`, m: api.Matching{Include: []string{"__name__", "a"}}, want: `{a="1"} 10`}.check(t)
}

// P21.3: the four errors of meetings, where they come and where they don't, and which comes first.
func TestVectorsMeetings(t *testing.T) {
	const two, twoOthers = `x{a="1",b="1"} 1; x{a="1",b="2"} 2`, `y{a="1",c="1"} 1; y{a="1",c="2"} 5`
	const far = `z{a="9"} 4`
	for _, c := range []row{
		// ErrManyToMany: no element of the many side has the key, or none at all is there.
		{l: "", r: twoOthers, m: on("a"), e: api.ErrManyToMany},
		{l: far, r: twoOthers, m: on("a"), e: api.ErrManyToMany},
		{l: far, r: twoOthers, m: left(on("a")), e: api.ErrManyToMany},
		{l: two, r: twoOthers, m: on("a"), e: api.ErrManyToMany},
		{l: two, r: far, m: right(on("a")), e: api.ErrManyToMany},
		{l: two, r: "", m: right(on("a")), e: api.ErrManyToMany},
		{l: two, r: twoOthers, m: right(on("a")), e: api.ErrManyToMany},
		{op: "<", l: far, r: twoOthers, m: on("a"), e: api.ErrManyToMany},
		// The many side may have a key twice, if it meets none or is many.
		{l: two, r: far, m: on("a"), want: ""},
		{l: two, r: "", m: on("a"), want: ""},
		{l: two + ";" + far, r: `y{a="9"} 1`, m: on("a"), want: `{a="9"} 5`},
		{l: far, r: twoOthers, m: right(on("a")), want: ""},
		// ErrManyToOne: also where a filter lets one or none through, ahead of ErrDup.
		{l: two, r: `y{a="1"} 1`, m: on("a"), e: api.ErrManyToOne},
		{op: ">", l: two, r: `y{a="1"} 9`, m: on("a"), e: api.ErrManyToOne},
		{op: ">", l: two, r: `y{a="1"} 1`, m: on("a"), e: api.ErrManyToOne},
		{op: ">", l: two, r: `y{a="1"} 1`, m: on("a"), yes: true, e: api.ErrManyToOne},
		{l: `x 1; y 1`, r: `z 1`, m: ignoring(), e: api.ErrManyToOne},
		{l: `x{a="1"} 1; y{a="1"} 1; x{a="2",b="1"} 2; x{a="2",b="2"} 2`, r: `x{a="1"} 1; y{a="1"} 1; {a="2"} 1`, m: ignoring("b"), e: api.ErrManyToMany},
		{l: `x{a="1"} 1; y{a="1"} 1; x{b="1"} 2; x{b="2"} 2`, r: `x 1; y 1`, m: on("__name__"), e: api.ErrManyToOne},
		// ErrDup: among what comes out.
		{l: `x{a="1"} 1; y{a="1"} 2`, r: `z{a="1"} 1`, m: left(on("a")), e: api.ErrDup},
		{l: `x{a="1"} 1; y{a="1"} 2`, r: `x 1; y 1`, m: on("__name__"), e: api.ErrDup},
		{op: "<", l: `x{a="1"} 1; y{a="1"} 2`, r: `x 5; y 5`, m: on("__name__"), want: `x 1; y 2`},
		{op: "<", l: `x{a="1"} 1; y{a="1"} 2`, r: `x 5; y 5`, m: on("__name__"), yes: true, e: api.ErrDup},
		{l: two, r: `y{a="1"} 1`, m: left(on("a"), "b"), e: api.ErrDup},
		{l: `y{a="1"} 1`, r: two, m: right(on("a"), "b"), e: api.ErrDup},
		{op: ">", l: two, r: `y{a="1"} 0`, m: left(on("a"), "b"), e: api.ErrDup},
		{op: ">", l: two, r: `y{a="1"} 1`, m: left(on("a"), "b"), want: `x{a="1"} 2`},
		{op: ">", l: two, r: `y{a="1"} 1`, m: left(on("a"), "b"), yes: true, e: api.ErrDup},
		{op: "<=", l: `x{a="1"} 1; y{a="1"} 2`, r: `z{a="1"} 2`, m: left(on("a")), want: `x{a="1"} 1; y{a="1"} 2`},
		{op: "<=", l: `x{a="1"} 1; y{a="1"} 2`, r: `z{a="1"} 2`, m: left(on("a"), "__name__"), e: api.ErrDup},
		// All kinds of keys beside each other.
		{l: `x{a="1",b="1"} 1; x{a="1",b="2"} 2; x{a="2"} 3; x{a="4"} 4; x 5`, r: `y{a="1"} 10; y{a="2"} 20; y{a="3"} 30; y 40`, m: left(on("a")), want: `{} 45; {a="1",b="1"} 11; {a="1",b="2"} 12; {a="2"} 23`},
	} {
		if c.op == "" {
			c.op = "+"
		}
		c.check(t)
	}
}

// P21.3: the set operators of vectors that meet wholly, in part and not at all; a key may stand for any number of elements on both sides.
func TestVectorsSets(t *testing.T) {
	const l, r = `x{a="1"} 1; y{a="1"} 2; x{a="2"} 3; x{a="2",b="1"} 4`, `y{a="1"} 5; z{a="1"} 6; x{a="3"} 7; y{a="3"} 8`
	const allL, allR = `x{a="1"} 1; x{a="2"} 3; x{a="2",b="1"} 4; y{a="1"} 2`, `x{a="3"} 7; y{a="1"} 5; y{a="3"} 8; z{a="1"} 6`
	for _, c := range []row{
		{op: "and", m: ignoring(), want: `x{a="1"} 1; y{a="1"} 2`},
		{op: "unless", m: ignoring(), want: `x{a="2"} 3; x{a="2",b="1"} 4`},
		{op: "or", m: ignoring(), want: `x{a="1"} 1; x{a="2"} 3; x{a="2",b="1"} 4; x{a="3"} 7; y{a="1"} 2; y{a="3"} 8`},
		{op: "and", m: on("__name__", "a"), want: `y{a="1"} 2`},
		{op: "unless", m: on("__name__", "a"), want: `x{a="1"} 1; x{a="2"} 3; x{a="2",b="1"} 4`},
		{op: "or", m: on("__name__", "a"), want: `x{a="1"} 1; x{a="2"} 3; x{a="2",b="1"} 4; x{a="3"} 7; y{a="1"} 2; y{a="3"} 8; z{a="1"} 6`},
		{op: "and", m: on("__name__"), want: allL},
		{op: "unless", m: on("__name__"), want: ""},
		{op: "or", m: on("__name__"), want: allL + `; z{a="1"} 6`},
		{op: "and", m: on(), want: allL},
		{op: "unless", m: on(), want: ""},
		{op: "or", m: on(), want: allL},
		{op: "and", m: ignoring("a", "a", ""), want: `x{a="1"} 1; x{a="2"} 3; y{a="1"} 2`},
		{op: "unless", m: ignoring("a", "__name__", "\xff"), want: `x{a="2",b="1"} 4`},
		{op: "and", m: on("c"), want: allL},
	} {
		c.l, c.r = l, r
		c.check(t)
		c.yes, c.m.Include = true, []string{"a", "__name__", "\xff"}
		c.check(t)
	}
	for _, c := range []row{
		{op: "and", l: l, want: ""}, {op: "unless", l: l, want: allL}, {op: "or", l: l, want: allL}, {op: "and", r: r, want: ""}, {op: "unless", r: r, want: ""}, {op: "or", r: r, want: allR}, {op: "and"}, {op: "unless"}, {op: "or"},
		{op: "and", l: l, r: l, want: allL}, {op: "unless", l: l, r: l}, {op: "or", l: l, r: l, want: allL},
		{op: "or", l: `{a="2"} 1; {a="4"} 1`, r: `{a="3"} 2; {} 2; {a="1"} 2; {b="1"} 2`, want: `{} 2; {a="1"} 2; {a="2"} 1; {a="3"} 2; {a="4"} 1; {b="1"} 2`},
		{op: "or", l: `x NaN`, r: `y 1`, want: `x NaN`}, {op: "and", l: `x NaN`, r: `y NaN`, want: `x NaN`},
	} {
		c.check(t)
	}
}

// P21.3: the order of errors: ErrVector of either side, ErrKind, ErrArg, and then those of meetings.
func TestVectorsOrderOfErrors(t *testing.T) {
	sound, twice := vec(`x{a="1"} 1; y{a="1"} 2`), vec(`x{a="1"} 1; x{a="1",b="1"} 2`)
	for _, v := range append(spoilt(nil), spoilt(sound)...) {
		for _, op := range append(operators(), "", "?") {
			for _, card := range append(cards(), wrongCards()...) {
				for _, two := range [][2][]api.Elem{{v, sound}, {sound, v}, {v, v}, {v, nil}, {nil, v}} {
					got, e := pair.Vectors(op, two[0], two[1], api.Matching{Card: card}, false)
					verify(t, got, e, nil, api.ErrVector, "Vectors", op, told(two[0]), told(two[1]), card)
				}
			}
		}
	}
	for _, op := range wrongOperators() {
		for _, card := range append(cards(), wrongCards()...) {
			for _, v := range [][]api.Elem{nil, sound, twice} {
				got, e := pair.Vectors(op, v, v, api.Matching{Card: card}, true)
				verify(t, got, e, nil, api.ErrKind, "Vectors", op[:min(9, len(op))], told(v), card)
			}
		}
	}
	for _, op := range operators() {
		wrong := wrongCards()
		if slices.Contains(setOperators(), op) {
			wrong = append(wrong, api.CardLeft, api.CardRight)
		}
		for _, card := range wrong {
			for _, v := range [][]api.Elem{nil, sound, twice} {
				got, e := pair.Vectors(op, v, v, api.Matching{Card: card, On: true}, false)
				verify(t, got, e, nil, api.ErrArg, "Vectors", op, told(v), card)
			}
		}
	}
}

// P21.3: values of each sort, all operators, each Card.
func TestVectorsValues(t *testing.T) {
	for _, a := range special() {
		for _, b := range special() {
			l, r := []api.Elem{{Labels: set("__name__", "up"), V: a}}, []api.Elem{{Labels: set("__name__", "down"), V: b}}
			for _, op := range operators() {
				for _, card := range cards() {
					checkVectors(t, op, l, r, api.Matching{Card: card}, card == api.CardLeft)
				}
			}
			checkVectors(t, "<", l, r, api.Matching{Card: api.CardRight}, true)
			checkVectors(t, "<", l, r, api.Matching{}, true)
		}
	}
}

// matchings: on and ignoring with few names, each Card with few names to be brought.
func matchings() []api.Matching {
	var out []api.Matching
	for _, names := range [][]string{nil, {"a"}, {"__name__"}, {"b", "A", "__name__"}} {
		for _, with := range []bool{false, true} {
			out = append(out, api.Matching{On: with, Labels: names})
			for _, include := range [][]string{nil, {"a"}, {"__name__", "b"}} {
				out = append(out, left(api.Matching{On: with, Labels: names}, include...), right(api.Matching{On: with, Labels: names}, include...))
			}
		}
	}
	return out
}

// P21.3 and P21.5: all small vectors on both sides, by the words.
func TestVectorsSmall(t *testing.T) {
	seen, all, ways := map[api.Errno]int{}, vectors(2), matchings()
	for i, l := range all {
		for j, r := range all {
			for k, m := range ways {
				op := []string{"-", "<", "<=", "and", "or", "unless"}[(i+j+k)%6]
				seen[checkVectors(t, op, l, r, m, (i+k)%2 == 0)]++
				slices.Reverse(l)
				seen[checkVectors(t, "<", l, r, m, (i+j)%2 == 0)]++
			}
		}
	}
	for _, e := range []api.Errno{0, api.ErrDup, api.ErrArg, api.ErrManyToMany, api.ErrManyToOne} {
		if seen[e] < 200 {
			t.Errorf("the answers were %v", seen)
		}
	}
}

// P21.3 and P21.5: vectors and matchings by chance, by the words.
func TestVectorsByChance(t *testing.T) {
	c, seen, full := newChance(4), map[api.Errno]int{}, 0
	for i := range 60000 {
		slips := i%4 == 0
		op, l, r, m, yes := c.op(slips), c.vector(6, slips), c.vector(6, slips), c.matching(slips), c.yes()
		e := checkVectors(t, op, l, r, m, yes)
		seen[e]++
		if got, _ := wordsVectors(op, l, r, m, yes); len(got) > 1 && !slices.Contains(setOperators(), op) {
			full++
		}
	}
	for _, e := range []api.Errno{0, api.ErrVector, api.ErrKind, api.ErrArg, api.ErrDup, api.ErrManyToMany, api.ErrManyToOne} {
		if seen[e] < 300 {
			t.Errorf("the answers were %v", seen)
		}
	}
	if full < 500 {
		t.Errorf("%d answers of several meetings", full)
	}
}
