package parse_test

import (
	"fmt"
	"slices"
	"strings"
	"testing"

	"weir/api"
	"weir/lex"
	"weir/tree"
)

// P13.3: brackets around a text that is taken, however many, change nothing.
func TestBracketsAround(t *testing.T) {
	w := newWriter(4)
	taken := 0
	check := func(s string) {
		was := parsed(s)
		if was.e != api.OK {
			return
		}
		taken++
		for range 3 {
			s = "(" + s + "\n)"
			if got := parsed(s); got != was {
				t.Fatalf("%q: %+v, not %+v", s, got, was)
			}
		}
	}
	for _, s := range samples() {
		check(s)
		check(s + "# )")
	}
	for range 3000 {
		check(w.text(60))
	}
	if taken < 1000 {
		t.Errorf("%d taken", taken)
	}
}

// P13.3: what stands between tokens changes nothing, and neither does what stands ahead of them and behind.
func TestGaps(t *testing.T) {
	w := newWriter(5)
	taken := 0
	check := func(toks []string) {
		was := parsed(strings.Join(toks, " "))
		for range 4 {
			s := w.spread(toks)
			if got := parsed(s); got.told != was.told || got.e != was.e {
				t.Fatalf("%q: %+v, not %+v", s, got, was)
			}
			was.place = 0
		}
		if was.e == api.OK {
			taken++
		}
	}
	for _, s := range samples() {
		check(cut(s))
	}
	for range 2000 {
		check(w.query(60))
	}
	if taken < 1000 {
		t.Errorf("%d taken", taken)
	}
}

// tightness: how tightly each operator binds, by the promise's list.
func tightness(op string) int {
	return slices.IndexFunc([]string{" or ", " and unless ", " == != < > <= >= ", " + - ", " * / % ", " ^ "}, func(level string) bool { return strings.Contains(level, " "+op+" ") })
}

// P13.4: every two operators, with and without brackets.
func TestBinding(t *testing.T) {
	pairs := 0
	for _, one := range operators() {
		for _, other := range operators() {
			for _, mods := range []string{"", "bool", "on (x)", "bool ignoring () group_left (y)"} {
				pairs++
				left := fmt.Sprintf("(1 %s 2) %s %s 3", one, other, mods)
				right := fmt.Sprintf("1 %s (2 %s %s 3)", one, other, mods)
				want, not := left, right
				if tight, behind := tightness(one), tightness(other); tight < behind || tight == behind && one == "^" {
					want, not = right, left
				}
				x := built(t, fmt.Sprintf("1 %s 2 %s %s 3", one, other, mods))
				if !tree.Same(x, built(t, want)) || tree.Same(x, built(t, not)) {
					t.Errorf("1 %s 2 %s %s 3: %s", one, other, mods, told(x.Root))
				}
			}
		}
	}
	if pairs != 15*15*4 {
		t.Error(pairs)
	}
}

// P13.4: two operators between whatever stands there: numbers, things with modifiers, brackets, calls.
func TestBindingOfThings(t *testing.T) {
	things := []string{"1", "up[5m:1m] offset 5m", "(up)", "f(1, 2)", "sum by (a) (up)", "'x'", "inf", "{}"}
	for i, one := range operators() {
		for k, other := range operators() {
			a, b, c := things[(i+k)%8], things[(i+2*k+1)%8], things[(3*i+k+2)%8]
			want := fmt.Sprintf("(%s %s %s) %s %s", a, one, b, other, c)
			if tight, behind := tightness(one), tightness(other); tight < behind || tight == behind && one == "^" {
				want = fmt.Sprintf("%s %s (%s %s %s)", a, one, b, other, c)
			}
			if s := strings.Join([]string{a, one, b, other, c}, " "); !tree.Same(built(t, s), built(t, want)) {
				t.Errorf("%s isn't %s", s, want)
			}
		}
	}
}

// behind: the texts that begin like s up to a place and the token there, and go on otherwise.
func behind(w *writer, s string, place int) []string {
	toks, _, _ := lex.Scan(s)
	i := slices.IndexFunc(toks, func(tok api.Token) bool { return tok.At == place })
	begin := s[:place+len(toks[i].Text)]
	list := []string{begin, begin + " )", begin + "\n# x\n", begin + " $", begin + " 1 + 1", begin + " ]]}})", begin + " (" + s}
	for range 5 {
		list = append(list, begin+" "+w.spread(w.query(30)), begin+" "+w.spread(w.spoiled(w.query(30))), begin+" "+w.one(vocabulary()))
	}
	var same []string
	for _, other := range list {
		again, _, e := lex.Scan(other)
		if e == api.OK && len(again) > i && slices.Equal(again[:i+1], toks[:i+1]) {
			same = append(same, other)
		}
	}
	return same
}

// P13.5: what stands behind the place of an error doesn't count.
func TestOnlyAheadCounts(t *testing.T) {
	w := newWriter(6)
	tried := map[api.Errno]int{}
	check := func(s string) {
		was := parsed(s)
		if was.e != api.ErrSyntax && was.e != api.ErrModifier && was.e != api.ErrBrackets {
			return
		}
		for _, other := range behind(w, s, was.place) {
			tried[was.e]++
			if got := parsed(other); got != was {
				t.Fatalf("%q: %+v; %q: %+v", s, was, other, got)
			}
		}
	}
	for i, s := range samples() {
		for k, tok := range vocabulary() {
			if (i+k)%4 == 0 {
				check(s + " " + tok)
				check(tok + " " + s)
			}
		}
	}
	for range 700 {
		check(w.text(40))
	}
	for _, kind := range []string{"(", "up{", "up[5m:1m]{", "up[", "f(", "sum by (", "a * on (", "up @ start("} {
		check(strings.Repeat("(", 300) + kind)
	}
	for e, least := range map[api.Errno]int{api.ErrSyntax: 3000, api.ErrModifier: 1000, api.ErrBrackets: 60} {
		if tried[e] < least {
			t.Errorf("error %d: %d times", e, tried[e])
		}
	}
}

// overfull: the place of the first bracket with 300 open ones ahead of it, counted by bytes; -1, where there is none.
func overfull(text string) int {
	open := 0
	for i, c := range []byte(text) {
		if strings.IndexByte("([{", c) >= 0 {
			if open == 300 {
				return i
			}
			open++
		}
		if strings.IndexByte(")]}", c) >= 0 {
			open--
		}
	}
	return -1
}

// P13.1: MaxBrackets open brackets are taken and one more isn't, whichever of them it is and whatever was closed ahead of it.
func TestMaxBrackets(t *testing.T) {
	if api.MaxBrackets != 300 {
		t.Fatal(api.MaxBrackets)
	}
	refused := 0
	closed := "f(1) + sum(x) by (a, b) + {a='x'} + up[5m:1m] + up @ start() + (1) + (1) * on (a) group_left (b) (1) + "
	for _, ahead := range []string{"", closed, strings.Repeat(closed, 10)} {
		for _, begin := range []string{"(", "f(", "sum(", "sum by (", "sum without (a) (", "topk by (a) (", "a * on (", "a * ignoring (", "a * on () group_left (", "a * on () group_right (", "{", "up{", "up[", "up[5m][", "up @ start(", "up @ end(", "(1) + (", "f(1)[", "f((1), (", "(f("} {
			for open := 297; open <= 301; open++ {
				text := ahead + "(" + ahead + strings.Repeat("(", open-1) + begin
				want := answer{"none", len(text), api.ErrEnd}
				if place := overfull(text); place >= 0 {
					refused++
					want = answer{"none", place, api.ErrBrackets}
					if got := parsed(text + " 5m ]"); got != want {
						t.Errorf("%d and %s with more: %+v", open, begin, got)
					}
				}
				if got := parsed(text); got != want {
					t.Errorf("%d and %s: %+v, not %+v", open, begin, got, want)
				}
				if got := parsed(text + " $"); got != (answer{"none", len(text) + 1, api.ErrChar}) {
					t.Errorf("%d and %s with a fault of Scan's: %+v", open, begin, got)
				}
			}
		}
	}
	if refused < 120 {
		t.Errorf("%d refused", refused)
	}
}

// P13.1: the words, by the machine that tries out all ways, near MaxBrackets.
func TestNearMaxBrackets(t *testing.T) {
	tails := []string{"", "1", ")", "(", "1 (", "a:b(", "f(", "f (1)", "up{", "up{}", "up[5m]", "{a='b'}", "up @ start()", "(up) offset", "sum by (a)", "sum {", "a b", "1 on (", "[", "1 ["}
	for _, open := range []int{298, 299, 300, 301} {
		for _, tail := range tails {
			agree(t, strings.Repeat("(", open)+tail)
		}
	}
	whole := strings.Repeat("(", 300) + "1" + strings.Repeat(")", 300)
	if got, _ := agree(t, whole+"+"+whole+"+("+strings.Repeat("f(", 299)+"1"+strings.Repeat(")", 300)); got.e != api.ErrDepth {
		t.Errorf("%+v", got)
	}
	built(t, whole+"+"+whole)
	if got, _ := agree(t, whole+"+"+whole+"+("+whole+")"); got != (answer{"none", 2*len(whole) + 302, api.ErrBrackets}) {
		t.Errorf("%+v", got)
	}
}

// A shape is a way to make texts of any depth from 4 on.
type shape func(depth int) string

func shapes() map[string]shape {
	again := func(times int, begin, middle, end string) string {
		return strings.Repeat(begin, times) + middle + strings.Repeat(end, times)
	}
	return map[string]shape{
		"signs":           func(d int) string { return again(d-1, "-", "1", "") },
		"signs of both":   func(d int) string { return again((d-1)/2, "- +", strings.Repeat("-", (d-1)%2)+"1", "") },
		"over a text":     func(d int) string { return again(d-1, "-", "'x'", "") },
		"over a duration": func(d int) string { return again(d-1, "1 ^ ", "5m", "") },
		"over braces":     func(d int) string { return again(d-1, "-", "{}", "") },
		"over a call":     func(d int) string { return again(d-1, "-", "f()", "") },
		"powers":          func(d int) string { return again(d-1, "1 ^ ", "up", "") },
		"powers signed":   func(d int) string { return again((d-1)/2, "1 ^ -", strings.Repeat("-", (d-1)%2)+"1", "") },
		"sums":            func(d int) string { return again(d-1, "", "1", "+ 1") },
		"levels":          func(d int) string { return again(d-2, "", "1", " or 1") + " or 1 + 2 * 3" },
		"products":        func(d int) string { return again(d-1, "", "up", " * on (a) up") },
		"right brackets":  func(d int) string { return again(d-1, "1 + (", "1", ")") },
		"subqueries":      func(d int) string { return again(d-1, "", "up", "[5m:]") },
		"ranges":          func(d int) string { return again(d-2, "-", "up[5m] offset 5m", "") },
		"calls":           func(d int) string { return again(d-2, "f(", "g()", ")") + "+ 1" },
		"second args":     func(d int) string { return again(d-1, "f(1, ", "1", ", 1)") },
		"aggregates":      func(d int) string { return again(d-1, "sum(", "1", ") by (a)") },
		"params":          func(d int) string { return again(d-1, "topk(", "1", ", up)") },
		"behind params":   func(d int) string { return again(d-1, "topk by (a) (1, ", "up", ")") },
		"brackets":        func(d int) string { return again(d-1, "-(", "((1))", ")") },
		"left and right":  func(d int) string { return again(d-2, "-", "1", "") + " + " + again(d-2, "+", "1", "") },
		"left of a power": func(d int) string { return "(" + again(d-2, "-", "1", "") + ") ^ 1" },
		"a sign alone":    func(d int) string { return again(d-2, "", "-1", "+ 1") },
		"right is deep":   func(d int) string { return "1 * " + again(d-2, "-", "1", "") },
		"subquery of":     func(d int) string { return "(" + again(d-2, "-", "1", "") + ")[5m:] @ 1" },
	}
}

// P13.1: trees of the depth MaxDepth and of one more, of each shape; and that ErrDepth comes behind all other errors.
func TestMaxDepth(t *testing.T) {
	for name, shape := range shapes() {
		for _, depth := range []int{4, 5, 127, 128} {
			if x := built(t, shape(depth)); tree.Depth(x) != depth {
				t.Errorf("%s: depth %d, not %d", name, tree.Depth(x), depth)
			}
		}
		for _, depth := range []int{129, 130, 131, 200, 257, 290} {
			s := shape(depth)
			if got := parsed(s); got != (answer{"none", 0, api.ErrDepth}) {
				t.Errorf("%s of depth %d: %+v", name, depth, got)
			}
			if got := parsed(s + " 1"); got != (answer{"none", len(s) + 1, api.ErrSyntax}) {
				t.Errorf("%s of depth %d with more: %+v", name, depth, got)
			}
			if got := parsed("1 + (" + s + ") offset"); got != (answer{"none", len(s) + 7, api.ErrModifier}) {
				t.Errorf("%s of depth %d with a modifier: %+v", name, depth, got)
			}
			if got := parsed("(" + s); got != (answer{"none", len(s) + 1, api.ErrEnd}) {
				t.Errorf("%s of depth %d not closed: %+v", name, depth, got)
			}
			if got := parsed(s + " $"); got != (answer{"none", len(s) + 1, api.ErrChar}) {
				t.Errorf("%s of depth %d with a fault of Scan's: %+v", name, depth, got)
			}
		}
	}
}

// P13.1: what is read behind a part that is too deep is read by the same words.
func TestBehindTooDeep(t *testing.T) {
	w := newWriter(7)
	counts := map[api.Errno]int{}
	deep := []string{strings.Repeat("-", 130) + "1", "1" + strings.Repeat("^1", 130), strings.Repeat("-", 128) + "up", "up" + strings.Repeat("[5m:]", 130), "1" + strings.Repeat("+1", 130)}
	for i := range 2000 {
		s := w.text(30)
		was := parsed(s)
		if was.e != api.OK && strings.HasPrefix(s[was.place:], ")") {
			continue // between brackets it may stand
		}
		for _, ahead := range []string{deep[i%5] + " + (\n", "(" + deep[i%5] + ") * (\n", "f(" + deep[i%5] + ", "} {
			got := parsed(ahead + s + strings.Repeat("\n)", 1-min(int(was.e), 1)))
			want := answer{"none", was.place + len(ahead), was.e}
			if was.e == api.OK {
				want.place, want.e = 0, api.ErrDepth
			}
			counts[was.e]++
			if got != want && !strings.HasPrefix(s[was.place:], ",") {
				t.Fatalf("%q: %+v, not %+v", ahead+s, got, want)
			}
		}
	}
	for e, least := range map[api.Errno]int{api.OK: 1500, api.ErrEnd: 300, api.ErrSyntax: 600, api.ErrModifier: 300} {
		if counts[e] < least {
			t.Errorf("error %d: %d times", e, counts[e])
		}
	}
	for _, c := range []struct {
		behind string
		place  int
		e      api.Errno
	}{{"", 0, api.ErrDepth}, {"offset 1m @ 1", 0, api.ErrDepth}, {"offset 1m offset 1m", 10, api.ErrModifier}, {"@ 1 offset -1m @ 1", 15, api.ErrModifier}, {"[5m]", 3, api.ErrModifier}, {"[5m:] [5m]", 9, api.ErrModifier}} {
		ahead := "up" + strings.Repeat("[5m:]", 130)
		want := answer{"none", c.place, c.e}
		if c.e != api.ErrDepth {
			want.place += len(ahead)
		}
		if got := parsed(ahead + c.behind); got != want {
			t.Errorf("a deep subquery and %q: %+v", c.behind, got)
		}
	}
}

// P13.1: more signs and operators waiting for their right sides than a tree may be deep, in each order.
func TestManyWaiting(t *testing.T) {
	for n := 124; n < 134; n++ {
		for _, s := range []string{
			strings.Repeat("-", n) + "1 + 1", strings.Repeat("-", n) + "1 ^ 1", strings.Repeat("1 ^ ", n) + "1 + 1", strings.Repeat("1 ^ ", n) + "-1", strings.Repeat("1 ^ -", n/2) + "1 * 1",
			"1 or 1 and 1 == 1 + 1 * " + strings.Repeat("-", n-5) + "1 ^ 1 or 1", "1 * " + strings.Repeat("-", n) + "1 or 1", strings.Repeat("-", n) + "(1 + 1)",
		} {
			agree(t, s)
		}
	}
}
