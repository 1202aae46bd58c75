package pair_test

import (
	"cmp"
	"fmt"
	"math"
	"runtime"
	"slices"
	"strings"
	"sync"
	"testing"
	"time"
	"unsafe"

	"weir/api"
	"weir/pair"
)

// A question is all that the calls may be given.
type question struct {
	op        string
	a, b      float64
	l, r      []api.Elem
	m         api.Matching
	left, yes bool
}

// An answer is all that they answer to it.
type answer struct {
	vectors [][]api.Elem
	plain   string // what isn't memory
}

func ask(q question) answer {
	number, e1 := pair.Scalars(q.op, q.a, q.b)
	mixed, e2 := pair.Mixed(q.op, q.l, q.a, q.left, q.yes)
	both, e3 := pair.Vectors(q.op, q.l, q.r, q.m, q.yes)
	negated, e4 := pair.Negate(q.r)
	return answer{[][]api.Elem{mixed, both, negated}, fmt.Sprint(number == 0 && math.Signbit(number), number, e1, e2, e3, e4)}
}

func (r answer) String() string {
	text := r.plain
	for _, v := range r.vectors {
		text += "; " + told(v)
	}
	return text
}

func (c chance) question(slips bool) question {
	return question{c.op(slips), c.value(), c.value(), c.vector(5, slips), c.vector(5, slips), c.matching(slips), c.yes(), c.yes()}
}

// P21.5: answers are sound and in canonical order, whatever order the vectors are handed in, and that order changes nothing.
func TestCanonicalOrder(t *testing.T) {
	c, long := newChance(5), 0
	for i := range 1500 {
		q := c.question(i%8 == 0)
		want := ask(q)
		for _, v := range want.vectors {
			if !wordsSound(v) || !slices.IsSortedFunc(v, func(a, b api.Elem) int { return wordsCompare(a.Labels, b.Labels) }) {
				t.Errorf("%s isn't sound, or in another order than the canonical one", told(v))
			}
			if len(v) > 3 {
				long++
			}
		}
		for range 4 {
			c.dice.Shuffle(len(q.l), func(i, j int) { q.l[i], q.l[j] = q.l[j], q.l[i] })
			c.dice.Shuffle(len(q.r), func(i, j int) { q.r[i], q.r[j] = q.r[j], q.r[i] })
			if got := ask(q).String(); got != want.String() {
				t.Errorf("%s, and in another order %s", want, got)
			}
		}
	}
	if long < 300 {
		t.Errorf("%d long answers", long)
	}
}

// P1, rule 1: no call panics, and each one answers by its words, whatever it is given.
func TestTotal(t *testing.T) {
	c := newChance(6)
	texts := []string{"", "a", "b", "__name__", "1", "\xff", "a:b", "\x00", strings.Repeat("a", 300)}
	labelsOf := func() []api.Label {
		var ls []api.Label
		for range c.dice.IntN(3) {
			ls = append(ls, api.Label{Name: pick(c, texts), Value: pick(c, texts)})
		}
		return ls
	}
	vectorOf := func() []api.Elem {
		var v []api.Elem
		for range c.dice.IntN(3) {
			v = append(v, api.Elem{Labels: labelsOf(), V: pick(c, special())})
		}
		return v
	}
	sound := 0
	for range 20000 {
		l, r, op := vectorOf(), vectorOf(), c.op(true)
		m := api.Matching{On: c.yes(), Labels: []string{pick(c, texts), pick(c, texts)}[:c.dice.IntN(3)], Card: pick(c, []int{0, 0, 1, 2, 3, -1, math.MaxInt, math.MinInt}), Include: []string{pick(c, texts), pick(c, texts)}[:c.dice.IntN(3)]}
		if e := checkVectors(t, op, l, r, m, c.yes()); e == 0 {
			sound++
		}
		checkMixed(t, op, l, pick(c, special()), c.yes(), c.yes())
		checkNegate(t, l)
	}
	if sound < 1000 {
		t.Errorf("%d calls were answered", sound)
	}
}

// quick: the time that a call takes must be no more than one that goes through what it is given once, or nearly so, could take on a slow machine.
func quick(t *testing.T, what string, call func()) {
	t.Helper()
	begin := time.Now()
	call()
	if took := time.Since(begin); took > 20*time.Second {
		t.Errorf("%s: %s", what, took)
	}
}

// great: a vector of very many elements, of which each has a label a, and many one of n0000000 to n0000006.
func great(name string, n int) []api.Elem {
	var v []api.Elem
	for i := range n {
		ls := set("__name__", name, "a", fmt.Sprintf("%07d", i*7919%n), "n"+fmt.Sprintf("%07d", i%7), "1")
		v = append(v, api.Elem{Labels: ls, V: float64(i)})
	}
	return v
}

func manyNames(n int) []string {
	var names []string
	for i := range n {
		names = append(names, fmt.Sprintf("n%07d", n-i))
	}
	return names
}

// P1, rule 1: very many elements, with very many names to be found by and to be brought, come to an end.
func TestGreatestVectors(t *testing.T) {
	const n = 50000
	l, r, names := great("x", n), great("y", n), manyNames(n)
	checkLength := func(what string, got []api.Elem, e api.Errno, want int, wantE api.Errno) {
		if len(got) != want || e != wantE {
			t.Errorf("%s: %d elements, %d", what, len(got), e)
		}
	}
	quick(t, "Mixed and Negate", func() {
		got, e := pair.Mixed("+", l, 1, false, false)
		checkLength("Mixed", got, e, n, 0)
		got, e = pair.Mixed("<", l, 10, false, false)
		checkLength("a filter", got, e, 10, 0)
		got, e = pair.Negate(l)
		checkLength("Negate", got, e, n, 0)
		got, e = pair.Negate(append(slices.Clone(l), r[0]))
		checkLength("Negate", got, e, 0, api.ErrDup)
	})
	quick(t, "one to one", func() {
		got, e := pair.Vectors("-", l, r, ignoring(names...), false)
		checkLength("ignoring", got, e, n, 0)
		got, e = pair.Vectors("-", l, r, on(append(names, "a")...), false)
		checkLength("on", got, e, n, 0)
		got, e = pair.Vectors("-", l, r, on(names...), false)
		checkLength("on", got, e, 0, api.ErrManyToMany)
	})
	quick(t, "many to one", func() {
		got, e := pair.Vectors("-", l, r[:7], left(on(names...), names...), false)
		checkLength("left", got, e, n, 0)
		got, e = pair.Vectors("-", r[:7], l, right(on(names...), append(names, "__name__")...), false)
		checkLength("right", got, e, n, 0)
		got, e = pair.Vectors("-", l, r[:7], left(on(names...), "a"), false)
		checkLength("left", got, e, 0, api.ErrDup)
		got, e = pair.Vectors("-", l, r[:7], on(names...), false)
		checkLength("on", got, e, 0, api.ErrManyToOne)
	})
	quick(t, "set operators", func() {
		for op, want := range map[string]int{"and": n, "unless": 0, "or": n} {
			got, e := pair.Vectors(op, l, r, ignoring(names...), false)
			checkLength(op, got, e, want, 0)
			got, e = pair.Vectors(op, l, r, on(names...), false)
			checkLength(op, got, e, want, 0)
		}
	})
}

// P1, rule 1: elements of very many labels.
func TestGreatestLabels(t *testing.T) {
	const n = 100000
	names := manyNames(n)
	var ls []api.Label
	for _, name := range slices.Backward(names) {
		ls = append(ls, api.Label{Name: name, Value: "1"})
	}
	l, r := []api.Elem{{Labels: append(set("__name__", "x", "a", "1"), ls...), V: 1}}, []api.Elem{{Labels: append(set("__name__", "y"), ls...), V: 2}}
	quick(t, "many labels", func() {
		for _, c := range []struct {
			m             api.Matching
			elems, labels int
		}{
			{on(names...), 1, n}, {ignoring(names...), 0, 0}, {ignoring("a"), 1, n}, {left(on(names...), names...), 1, n + 1}, {right(on(), names...), 1, n}, {left(ignoring("a"), append(names, "b")...), 1, n + 1},
		} {
			got, e := pair.Vectors("+", l, r, c.m, false)
			if e != 0 || len(got) != c.elems || c.elems > 0 && len(got[0].Labels) != c.labels {
				t.Errorf("many labels, Card %d, On %t: %d elements, %d", c.m.Card, c.m.On, len(got), e)
			}
		}
		if got, e := pair.Negate(l); e != 0 || len(got[0].Labels) != n+1 {
			t.Errorf("Negate of many labels: %d", e)
		}
	})
}

// P1, rule 1: small calls asked very often come to an end.
func TestOftenAsked(t *testing.T) {
	l, r := vec(`x{a="1"} 1`), vec(`y{a="1"} 2`)
	quick(t, "many calls", func() {
		for range 1 << 17 {
			pair.Scalars("unless", 1, 2)
			pair.Mixed("+", l, 1, true, true)
			pair.Vectors("<", l, r, on("a"), true)
		}
	})
}

// P1, rules 3 and 4: beside an error there is nothing; an empty list is as good as nil.
func TestNothing(t *testing.T) {
	c := newChance(7)
	for range 4000 {
		q := c.question(true)
		if v, e := pair.Scalars(q.op, q.a, q.b); e != 0 && !same(v, 0) {
			t.Errorf("Scalars(%q) = %v, %d", q.op, v, e)
		}
		if v, e := pair.Mixed(q.op, q.l, q.a, q.left, q.yes); e != 0 && len(v) != 0 {
			t.Errorf("Mixed = %s%d", told(v), e)
		}
		if v, e := pair.Vectors(q.op, q.l, q.r, q.m, q.yes); e != 0 && len(v) != 0 {
			t.Errorf("Vectors = %s%d", told(v), e)
		}
		if v, e := pair.Negate(q.l); e != 0 && len(v) != 0 {
			t.Errorf("Negate = %s%d", told(v), e)
		}
	}
	for range 2000 {
		q := c.question(false)
		want := ask(q).String()
		q.l, q.r, q.m.Labels, q.m.Include = orEmpty(q.l), orEmpty(q.r), orEmpty(q.m.Labels), orEmpty(q.m.Include)
		for _, v := range [][]api.Elem{q.l, q.r} {
			for i := range v {
				v[i].Labels = orEmpty(v[i].Labels)
			}
		}
		if got := ask(q).String(); got != want {
			t.Fatalf("%s, and with empty lists for nil %s", want, got)
		}
	}
}

// orEmpty: the list, or an empty one that isn't nil, with marks in its spare room.
func orEmpty[T any](list []T) []T {
	if list == nil {
		return make([]T, 3)[:0]
	}
	return list
}

// marked: a list with spare room in which marks lie.
func marked[T any](list []T, mark T) []T {
	made := append(slices.Clone(list), mark, mark, mark, mark, mark, mark)
	return made[:len(list)]
}

// mark gives each list of a question spare room with marks.
func (q *question) mark() {
	for _, v := range []*[]api.Elem{&q.l, &q.r} {
		for i, x := range *v {
			(*v)[i].Labels = marked(x.Labels, api.Label{Name: "mark", Value: "x"})
		}
		*v = marked(*v, api.Elem{V: 99})
	}
	q.m.Labels, q.m.Include = marked(q.m.Labels, "a"), marked(q.m.Include, "b")
}

// room: all that a question's lists hold, their spare room too.
func (q question) room() string {
	var b strings.Builder
	fmt.Fprintln(&b, q.m.Labels[:cap(q.m.Labels)], q.m.Include[:cap(q.m.Include)])
	for _, v := range [][]api.Elem{q.l, q.r} {
		fmt.Fprintln(&b, v[:cap(v)])
		for _, x := range v {
			fmt.Fprintln(&b, x.Labels[:cap(x.Labels)])
		}
	}
	return b.String()
}

// P1, rule 5: what is handed in stays as it is, its spare room too, and what that room holds counts for nothing.
func TestGivenStays(t *testing.T) {
	c := newChance(8)
	for i := range 4000 {
		q := c.question(i%4 == 0)
		want := ask(q).String()
		q.mark()
		before := q.room()
		if got := ask(q).String(); got != want {
			t.Fatalf("%s, and with marks behind the lists %s", want, got)
		}
		if after := q.room(); after != before {
			t.Fatalf("%s is left of %s", after, before)
		}
	}
}

// overwritten: texts in memory that is the caller's own, and a call that writes over them.
type overwritten struct{ held [][]byte }

func (o *overwritten) text(s string) string {
	b := []byte(s)
	o.held = append(o.held, b)
	return unsafe.String(unsafe.SliceData(b), len(b))
}

func (o *overwritten) texts(list []string) []string {
	var made []string
	for _, s := range list {
		made = append(made, o.text(s))
	}
	return made
}

func (o *overwritten) vector(v []api.Elem) []api.Elem {
	var made []api.Elem
	for _, x := range v {
		var ls []api.Label
		for _, l := range x.Labels {
			ls = append(ls, api.Label{Name: o.text(l.Name), Value: o.text(l.Value)})
		}
		made = append(made, api.Elem{Labels: ls, V: x.V})
	}
	return made
}

func (o *overwritten) question(q question) question {
	q.op, q.l, q.r, q.m.Labels, q.m.Include = o.text(q.op), o.vector(q.l), o.vector(q.r), o.texts(q.m.Labels), o.texts(q.m.Include)
	return q
}

func (o *overwritten) spoil() {
	for _, b := range o.held {
		for i := range b {
			b[i] = '?'
		}
	}
}

// P1, rules 5 and 6: what is answered doesn't change with the texts and lists that were handed in, and what was handed in isn't asked again.
func TestAnswersOutliveTexts(t *testing.T) {
	c := newChance(9)
	for i := range 4000 {
		var o overwritten
		q := c.question(i%4 == 0)
		want := ask(q).String()
		mine := o.question(q)
		got := ask(mine)
		o.spoil()
		for _, v := range [][]api.Elem{mine.l, mine.r} {
			for _, x := range v {
				clear(x.Labels)
			}
			clear(v)
		}
		clear(mine.m.Labels)
		clear(mine.m.Include)
		if got.String() != want {
			t.Fatalf("%s, and after a change of the texts %s", want, got)
		}
		if again := ask(q).String(); again != want {
			t.Fatalf("%s, and later %s", want, again)
		}
	}
}

// A stretch of memory, from its first byte to behind its last.
type stretch struct{ from, to uintptr }

// memory: the stretches that things take up, spare room too, and the things themselves, so that nothing newer comes to lie there.
type memory struct {
	all  []stretch
	kept []any
}

func (m *memory) add(p unsafe.Pointer, size uintptr, thing any) {
	m.kept = append(m.kept, thing)
	if size > 0 {
		m.all = append(m.all, stretch{uintptr(p), uintptr(p) + size})
	}
}

func (m *memory) text(s string) { m.add(unsafe.Pointer(unsafe.StringData(s)), uintptr(len(s)), s) }

func (m *memory) vector(v []api.Elem) {
	m.add(unsafe.Pointer(unsafe.SliceData(v)), uintptr(cap(v))*unsafe.Sizeof(api.Elem{}), v)
	for _, x := range v[:cap(v)] {
		m.add(unsafe.Pointer(unsafe.SliceData(x.Labels)), uintptr(cap(x.Labels))*unsafe.Sizeof(api.Label{}), x.Labels)
		for _, l := range x.Labels[:cap(x.Labels)] {
			m.text(l.Name)
			m.text(l.Value)
		}
	}
}

func (m *memory) question(q question) {
	m.vector(q.l)
	m.vector(q.r)
	for _, s := range slices.Concat(q.m.Labels, q.m.Include, []string{q.op}) {
		m.text(s)
	}
}

func (m *memory) answer(r answer) {
	for _, v := range r.vectors {
		m.vector(v)
	}
}

// shared: do two stretches share a byte?
func (m *memory) shared() bool {
	slices.SortFunc(m.all, func(a, b stretch) int { return cmp.Compare(a.from, b.from) })
	for i := 1; i < len(m.all); i++ {
		if m.all[i].from < m.all[i-1].to {
			return true
		}
	}
	return false
}

// P21.5, and P1, rule 5: no two of what is handed in and what is answered, now or to the same question again, share memory; not even the labels that one element gives to many.
func TestNewMemory(t *testing.T) {
	c, stretches := newChance(10), 0
	questions := []question{
		{op: "+", l: vec(`x{a="1",b="1"} 1; x{a="1",b="2"} 2; x{a="1",b="3"} 2`), r: vec(`y{a="1",c="7",d="8"} 1`), m: left(on("a"), "c", "d", "__name__")},
		{op: "<", l: vec(`y{a="1",c="7",d="8"} 1`), r: vec(`x{a="1",b="1"} 1; x{a="1",b="2"} 2; x{a="1",b="3"} 2`), m: right(on("a"), "c", "d", "__name__")},
		{op: "or", l: vec(`x{a="1"} 1`), r: vec(`x{a="1"} 1; x{a="2"} 3`)},
	}
	for range 1500 {
		questions = append(questions, c.question(false))
	}
	for _, asked := range questions {
		var o overwritten
		var m memory
		q := o.question(asked)
		m.question(q)
		m.answer(ask(q))
		m.answer(ask(q))
		if m.shared() {
			t.Fatalf("memory is shared in the answers to %+v", q)
		}
		stretches += len(m.all)
		runtime.KeepAlive(m.kept)
	}
	if stretches < 50000 {
		t.Errorf("%d stretches", stretches)
	}
}

// P1, rule 6, and P2: the same question has the same answer, whatever was asked between; and Given counts for nothing.
func TestSameAnswerAgain(t *testing.T) {
	c := newChance(11)
	var list []question
	var want []string
	for i := range 2000 {
		list = append(list, c.question(i%4 == 0))
		want = append(want, ask(list[i]).String())
	}
	for i := len(list) - 1; i >= 0; i-- {
		list[i].m.Given = !list[i].m.Given
		if got := ask(list[i]).String(); got != want[i] {
			t.Fatalf("%s, and later %s", want[i], got)
		}
	}
}

// settled: how many goroutines there are, once those have ended that the runtime or an earlier test still had: at most n, unless one was left behind since there were n.
func settled(n int) int {
	now := runtime.NumGoroutine()
	for tries := 0; now > n && tries < 500; tries++ {
		time.Sleep(10 * time.Millisecond)
		now = runtime.NumGoroutine()
	}
	return now
}

// P1, rule 10: calls beside each other, over the same lists too, answer what they would have answered alone; and no call begins a goroutine.
func TestBesideEachOther(t *testing.T) {
	c := newChance(12)
	var list []question
	var want []string
	before := runtime.NumGoroutine()
	for i := range 300 {
		list = append(list, c.question(i%4 == 0))
		want = append(want, ask(list[i]).String())
	}
	if after := settled(before); after > before {
		t.Errorf("%d goroutines, and then %d", before, after)
	}
	var all sync.WaitGroup
	for g := range 8 {
		all.Go(func() {
			for i := range list {
				k := (i*(2*g+1) + g) % len(list)
				if got := ask(list[k]).String(); got != want[k] {
					t.Errorf("alone %s, and beside others %s", want[k], got)
				}
			}
		})
	}
	all.Wait()
}
