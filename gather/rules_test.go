package gather_test

import (
	"cmp"
	"fmt"
	"math"
	"runtime"
	"slices"
	"strings"
	"sync"
	"testing"
	"time"
	"unsafe"

	"weir/api"
	"weir/gather"
)

// A question is all that the call may be given.
type question struct {
	g api.Gathering
	v []api.Elem
}

// ask: the answer, and as a text.
func ask(q question) ([]api.Elem, string) {
	got, e := gather.Gather(q.g, q.v)
	return got, fmt.Sprint(told(got), int(e))
}

func asked(q question) string {
	_, text := ask(q)
	return text
}

func (c chance) question(slips bool) question {
	return question{c.gathering(slips), c.vector(9, slips)}
}

// P1, rule 8: answers are sound and in canonical order, whatever order the vector is handed in, and that order changes nothing; nor does that of the names, nor one that stands there twice.
func TestCanonicalOrder(t *testing.T) {
	c, long := newChance(5), 0
	for i := range 4000 {
		q := c.question(i%8 == 0)
		v, want := ask(q)
		if !wordsSound(v) || !slices.IsSortedFunc(v, func(a, b api.Elem) int { return wordsCompare(a.Labels, b.Labels) }) {
			t.Errorf("%s isn't sound, or in another order than the canonical one", told(v))
		}
		if len(v) > 3 {
			long++
		}
		for range 4 {
			c.dice.Shuffle(len(q.v), func(i, j int) { q.v[i], q.v[j] = q.v[j], q.v[i] })
			q.g.Labels = append(q.g.Labels, q.g.Labels...)
			c.dice.Shuffle(len(q.g.Labels), func(i, j int) { q.g.Labels[i], q.g.Labels[j] = q.g.Labels[j], q.g.Labels[i] })
			if got := asked(q); got != want {
				t.Errorf("%s, and in another order %s", want, got)
			}
		}
	}
	if long < 500 {
		t.Errorf("%d long answers", long)
	}
}

// P1, rule 1: no call panics, and each one answers by its words, whatever it is given.
func TestTotal(t *testing.T) {
	c := newChance(6)
	texts := []string{"", "a", "b", "__name__", "1", "\xff", "a:b", "\x00", strings.Repeat("a", 300)}
	labelsOf := func() []api.Label {
		var ls []api.Label
		for range c.dice.IntN(3) {
			ls = append(ls, api.Label{Name: pick(c, texts), Value: pick(c, texts)})
		}
		return ls
	}
	sound := 0
	for range 40000 {
		var v []api.Elem
		for range c.dice.IntN(3) {
			v = append(v, api.Elem{Labels: labelsOf(), V: pick(c, special())})
		}
		g := api.Gathering{Op: pick(c, ops()), Without: c.yes(), Labels: []string{pick(c, texts), pick(c, texts)}[:c.dice.IntN(3)], Param: pick(c, special()), Text: pick(c, texts)}
		if check(t, g, v) == 0 {
			sound++
		}
	}
	if sound < 10000 {
		t.Errorf("%d calls were answered", sound)
	}
	check(t, api.Gathering{}, nil)
	check(t, api.Gathering{Op: "sum"}, []api.Elem{{}})
}

// quick: the time that a call takes must be no more than one that goes through what it is given once, or nearly so, could take on a slow machine.
func quick(t *testing.T, what string, call func()) {
	t.Helper()
	begin := time.Now()
	call()
	if took := time.Since(begin); took > 20*time.Second {
		t.Errorf("%s: %s", what, took)
	}
}

// great: a vector of very many elements, of which each has a label a, and many one of n0000000 to n0000006.
func great(n int) []api.Elem {
	var v []api.Elem
	for i := range n {
		ls := set("__name__", "up", "a", fmt.Sprintf("%07d", i*7919%n), "n"+fmt.Sprintf("%07d", i%7), "1")
		v = append(v, api.Elem{Labels: ls, V: float64(i)})
	}
	return v
}

func manyNames(n int) []string {
	var names []string
	for i := range n {
		names = append(names, fmt.Sprintf("n%07d", n-i))
	}
	return names
}

// ways: an aggregation for each of the ways in which groups are gone through.
func ways() []string { return []string{"sum", "min", "topk", "count_values"} }

// P1, rule 1: very many elements, in few groups and in many, with very many names, come to an end.
func TestGreatestVectors(t *testing.T) {
	const n = 50000
	v, names := great(n), manyNames(n)
	for _, op := range ways() {
		quick(t, op, func() {
			for _, c := range []struct {
				g              api.Gathering
				groups, chosen int
			}{
				{by(op), 1, n / 2}, {without(op), n, n}, {by(op, "a"), n, n}, {without(op, "a"), 7, n}, {by(op, names...), 7, n}, {without(op, names...), n, n}, {by(op, append(names, "a")...), n, n}, {without(op, append(names, "a")...), 2, n/2 + n/7 + 1},
			} {
				got, e := gather.Gather(into("v", of(n/2, c.g)), v)
				want := map[string]int{"topk": c.chosen, "count_values": n, "sum": c.groups, "min": c.groups}[op]
				if e != 0 || len(got) != want {
					t.Errorf("%s, without %t of %d names: %d elements, %d; want %d", op, c.g.Without, len(c.g.Labels), len(got), e, want)
				}
			}
		})
	}
}

// P1, rule 1: elements of very many labels.
func TestGreatestLabels(t *testing.T) {
	const n = 100000
	names := manyNames(n)
	ls := set("__name__", "x", "a", "1")
	for _, name := range slices.Backward(names) {
		ls = append(ls, api.Label{Name: name, Value: "1"})
	}
	v := []api.Elem{{Labels: ls, V: 1}, {Labels: ls[1:], V: 2}, {Labels: ls[2:], V: 3}}
	for _, op := range ways() {
		quick(t, op, func() {
			for _, c := range []struct {
				g     api.Gathering
				first int // how many labels the first of the groups has
			}{
				{by(op, names...), n}, {by(op, append(names, "__name__")...), n + 1}, {without(op), n + 1}, {without(op, "a"), n}, {without(op, names...), 0}, {by(op), 0},
			} {
				got, e := gather.Gather(into("zzz", of(3, c.g)), v)
				want := map[string]int{"topk": n + 2, "count_values": c.first + 1, "sum": c.first, "min": c.first}[op]
				if op == "count_values" && c.first == 0 && c.g.Without {
					want = 2
				}
				if e != 0 || len(got) == 0 || len(got[0].Labels) != want {
					t.Errorf("%s of many labels, without %t of %d names: %d elements, %d", op, c.g.Without, len(c.g.Labels), len(got), e)
				}
			}
		})
	}
}

// P1, rule 1: small calls asked very often come to an end.
func TestOftenAsked(t *testing.T) {
	v := vec(`x{a="1"} 1; x{a="2"} 2`)
	quick(t, "many calls", func() {
		for range 1 << 15 {
			for _, op := range ops() {
				gather.Gather(into("v", of(1, by(op, "a"))), v)
			}
		}
	})
}

// P1, rules 3 and 4: beside an error there is nothing; an empty list is as good as nil.
func TestNothing(t *testing.T) {
	c := newChance(7)
	for range 10000 {
		q := c.question(true)
		if v, e := gather.Gather(q.g, q.v); e != 0 && len(v) != 0 {
			t.Errorf("Gather = %s%d", told(v), e)
		}
	}
	for range 4000 {
		q := c.question(false)
		want := asked(q)
		q.v, q.g.Labels = orEmpty(q.v), orEmpty(q.g.Labels)
		for i := range q.v {
			q.v[i].Labels = orEmpty(q.v[i].Labels)
		}
		if got := asked(q); got != want {
			t.Fatalf("%s, and with empty lists for nil %s", want, got)
		}
	}
}

// orEmpty: the list, or an empty one that isn't nil, with marks in its spare room.
func orEmpty[T any](list []T) []T {
	if list == nil {
		return make([]T, 3)[:0]
	}
	return list
}

// marked: a list with spare room in which marks lie.
func marked[T any](list []T, mark T) []T {
	made := append(slices.Clone(list), mark, mark, mark, mark, mark, mark)
	return made[:len(list)]
}

// mark gives each list of a question spare room with marks.
func (q *question) mark() {
	for i, x := range q.v {
		q.v[i].Labels = marked(x.Labels, api.Label{Name: "mark", Value: "x"})
	}
	q.v, q.g.Labels = marked(q.v, api.Elem{V: 99}), marked(q.g.Labels, "a")
}

// room: all that a question's lists hold, their spare room too.
func (q question) room() string {
	var b strings.Builder
	fmt.Fprintln(&b, q.g.Labels[:cap(q.g.Labels)], q.v[:cap(q.v)])
	for _, x := range q.v {
		fmt.Fprintln(&b, x.Labels[:cap(x.Labels)])
	}
	return b.String()
}

// P1, rule 5: what is handed in stays as it is, its spare room too, and what that room holds counts for nothing.
func TestGivenStays(t *testing.T) {
	c := newChance(8)
	for i := range 8000 {
		q := c.question(i%4 == 0)
		want := asked(q)
		q.mark()
		before := q.room()
		if got := asked(q); got != want {
			t.Fatalf("%s, and with marks behind the lists %s", want, got)
		}
		if after := q.room(); after != before {
			t.Fatalf("%s is left of %s", after, before)
		}
	}
}

// overwritten: texts in memory that is the caller's own, and a call that writes over them.
type overwritten struct{ held [][]byte }

func (o *overwritten) text(s string) string {
	b := []byte(s)
	o.held = append(o.held, b)
	return unsafe.String(unsafe.SliceData(b), len(b))
}

func (o *overwritten) question(q question) question {
	g := api.Gathering{Op: o.text(q.g.Op), Without: q.g.Without, Param: q.g.Param, Text: o.text(q.g.Text)}
	for _, name := range q.g.Labels {
		g.Labels = append(g.Labels, o.text(name))
	}
	var made []api.Elem
	for _, x := range q.v {
		var ls []api.Label
		for _, l := range x.Labels {
			ls = append(ls, api.Label{Name: o.text(l.Name), Value: o.text(l.Value)})
		}
		made = append(made, api.Elem{Labels: ls, V: x.V})
	}
	return question{g, made}
}

func (o *overwritten) spoil() {
	for _, b := range o.held {
		for i := range b {
			b[i] = '?'
		}
	}
}

// P1, rules 5 and 6: what is answered doesn't change with the texts and lists that were handed in, and what was handed in isn't asked again.
func TestAnswersOutliveTexts(t *testing.T) {
	c := newChance(9)
	for i := range 8000 {
		var o overwritten
		q := c.question(i%4 == 0)
		v, want := ask(q)
		kept := told(v)
		mine := o.question(q)
		got, _ := ask(mine)
		o.spoil()
		for _, x := range mine.v {
			clear(x.Labels)
		}
		clear(mine.v)
		clear(mine.g.Labels)
		if told(got) != kept {
			t.Fatalf("%s, and after a change of the texts %s", kept, told(got))
		}
		if again := asked(q); again != want {
			t.Fatalf("%s, and later %s", want, again)
		}
	}
}

// A stretch of memory, from its first byte to behind its last.
type stretch struct{ from, to uintptr }

// memory: the stretches that things take up, spare room too, and the things themselves, so that nothing newer comes to lie there.
type memory struct {
	all  []stretch
	kept []any
}

func (m *memory) add(p unsafe.Pointer, size uintptr, thing any) {
	m.kept = append(m.kept, thing)
	if size > 0 {
		m.all = append(m.all, stretch{uintptr(p), uintptr(p) + size})
	}
}

func (m *memory) text(s string) { m.add(unsafe.Pointer(unsafe.StringData(s)), uintptr(len(s)), s) }

func (m *memory) vector(v []api.Elem) {
	m.add(unsafe.Pointer(unsafe.SliceData(v)), uintptr(cap(v))*unsafe.Sizeof(api.Elem{}), v)
	for _, x := range v[:cap(v)] {
		m.add(unsafe.Pointer(unsafe.SliceData(x.Labels)), uintptr(cap(x.Labels))*unsafe.Sizeof(api.Label{}), x.Labels)
		for _, l := range x.Labels[:cap(x.Labels)] {
			m.text(l.Name)
			m.text(l.Value)
		}
	}
}

func (m *memory) question(q question) {
	m.vector(q.v)
	for _, s := range append(q.g.Labels, q.g.Op, q.g.Text) {
		m.text(s)
	}
	m.add(unsafe.Pointer(unsafe.SliceData(q.g.Labels)), uintptr(cap(q.g.Labels))*unsafe.Sizeof(""), q.g.Labels)
}

// shared: do two stretches share a byte?
func (m *memory) shared() bool {
	slices.SortFunc(m.all, func(a, b stretch) int { return cmp.Compare(a.from, b.from) })
	for i := 1; i < len(m.all); i++ {
		if m.all[i].from < m.all[i-1].to {
			return true
		}
	}
	return false
}

// P1, rule 5: no two of what is handed in and what is answered, now or to the same question again, share memory; not even the labels that many elements have alike.
func TestNewMemory(t *testing.T) {
	c, stretches := newChance(10), 0
	var questions []question
	for _, op := range ops() {
		for _, g := range []api.Gathering{by(op, "a"), without(op, "b"), by(op), by(op, "a", "b", "__name__")} {
			questions = append(questions, question{into("v", of(2, g)), vec(`x{a="1",b="1"} 1; x{a="1",b="2"} 2; y{a="1",b="3"} NaN; y{a="2",b="3"} NaN; {a="3"} 1`)})
		}
	}
	for range 4000 {
		questions = append(questions, c.question(false))
	}
	for _, q := range questions {
		var o overwritten
		var m memory
		mine := o.question(q)
		m.question(mine)
		for range 2 {
			v, _ := ask(mine)
			m.vector(v)
		}
		if m.shared() {
			t.Fatalf("memory is shared in the answers to %+v", q)
		}
		stretches += len(m.all)
		runtime.KeepAlive(m.kept)
	}
	if stretches < 50000 {
		t.Errorf("%d stretches", stretches)
	}
}

// P1, rule 6, and P2: the same question has the same answer, whatever was asked between.
func TestSameAnswerAgain(t *testing.T) {
	c := newChance(11)
	var list []question
	var want []string
	for i := range 4000 {
		list = append(list, c.question(i%4 == 0))
		want = append(want, asked(list[i]))
	}
	for i := len(list) - 1; i >= 0; i-- {
		if got := asked(list[i]); got != want[i] {
			t.Fatalf("%s, and later %s", want[i], got)
		}
	}
}

// P1, rule 7, and P2: a NaN's sign and payload count for nothing.
func TestAnyNaN(t *testing.T) {
	c := newChance(13)
	other := math.Float64frombits(0xFFF0000000000001)
	for range 4000 {
		q := c.question(false)
		want := asked(q)
		for i, x := range q.v {
			if x.V != x.V {
				q.v[i].V = other
			}
		}
		if q.g.Param != q.g.Param {
			q.g.Param = other
		}
		if got := asked(q); got != want {
			t.Fatalf("%s, and with another NaN %s", want, got)
		}
	}
}

// settled: how many goroutines there are, once those have ended that the runtime or an earlier test still had: at most n, unless one was left behind since there were n.
func settled(n int) int {
	now := runtime.NumGoroutine()
	for tries := 0; now > n && tries < 500; tries++ {
		time.Sleep(10 * time.Millisecond)
		now = runtime.NumGoroutine()
	}
	return now
}

// P1, rule 10: calls beside each other, over the same lists too, answer what they would have answered alone; and no call begins a goroutine.
func TestBesideEachOther(t *testing.T) {
	c := newChance(12)
	var list []question
	var want []string
	before := runtime.NumGoroutine()
	for i := range 500 {
		list = append(list, c.question(i%4 == 0))
		want = append(want, asked(list[i]))
	}
	if after := settled(before); after > before {
		t.Errorf("%d goroutines, and then %d", before, after)
	}
	var all sync.WaitGroup
	for g := range 8 {
		all.Go(func() {
			for i := range list {
				k := (i*(2*g+1) + g) % len(list)
				if got := asked(list[k]); got != want[k] {
					t.Errorf("alone %s, and beside others %s", want[k], got)
				}
			}
		})
	}
	all.Wait()
}
