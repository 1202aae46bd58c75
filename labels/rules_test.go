package labels_test

import (
	"cmp"
	"fmt"
	"math"
	"runtime"
	"slices"
	"strconv"
	"strings"
	"sync"
	"testing"
	"time"
	"unsafe"

	"weir/api"
	"weir/labels"
)

// quick: the time that a call takes must be no more than one that goes through what it is given once, or nearly so, could take on a slow machine.
func quick(t *testing.T, what string, call func()) {
	t.Helper()
	begin := time.Now()
	call()
	if took := time.Since(begin); took > 20*time.Second {
		t.Errorf("%s: %s", what, took)
	}
}

// great: a label set of very many labels, and their names.
func great(n int) ([]api.Label, []string) {
	var ls []api.Label
	var names []string
	for i := range n {
		name := fmt.Sprintf("a%07d", i)
		ls, names = append(ls, api.Label{Name: name, Value: strconv.Itoa(i)}), append(names, name)
	}
	return ls, names
}

// P1, rule 1: lists of very many labels and names.
func TestGreatestLists(t *testing.T) {
	const n = 300000
	ls, names := great(n)
	back := slices.Clone(ls)
	slices.Reverse(back)
	quick(t, "Make", func() {
		if made, e := labels.Make(back); e != 0 || !slices.Equal(made, ls) {
			t.Errorf("Make of many pairs: %d", e)
		}
		if _, e := labels.Make(append(slices.Clone(back), back[n/2])); e != api.ErrLabels {
			t.Errorf("Make of many pairs, one twice: %d", e)
		}
	})
	quick(t, "Valid and Compare", func() {
		if !labels.Valid(ls) || labels.Valid(back) || labels.Compare(ls, slices.Clone(ls)) != 0 || labels.Compare(ls[:n-1], ls) != -1 {
			t.Error("Valid and Compare of many labels")
		}
	})
	quick(t, "With", func() {
		if made := labels.With(ls, "a", "1"); len(made) != n+1 || made[0].Name != "a" || labels.Get(made, names[n-1]) != strconv.Itoa(n-1) {
			t.Error("With of many labels")
		}
		same := slices.Repeat(ls[:1], n)
		if made := labels.With(same, ls[0].Name, ""); len(made) != 0 {
			t.Errorf("With leaves %d labels", len(made))
		}
	})
	slices.Reverse(names)
	quick(t, "Keep and Key", func() {
		if !slices.Equal(labels.Keep(ls, names, false), ls) || len(labels.Keep(back, names, true)) != 0 || !slices.Equal(labels.Keep(back, names[:1], false), back[:1]) {
			t.Error("Keep of many labels")
		}
		if labels.Key(ls, names, false) != labels.Key(ls, nil, true) || labels.Key(ls, names, true) != "" {
			t.Error("Key of many labels")
		}
	})
}

// P1, rule 1: texts of very many labels, long values, and very many tokens that are no label set.
func TestGreatestTexts(t *testing.T) {
	ls, _ := great(300000)
	quick(t, "Text and Read", func() {
		if made, e := labels.Read(labels.Text(ls)); e != 0 || !slices.Equal(made, ls) {
			t.Errorf("Read of many labels: %d", e)
		}
	})
	for _, text := range []string{strings.Repeat("{", 1<<21), strings.Repeat("a=\"\",", 1<<19), "{" + strings.Repeat("a=\"\",", 1<<19) + "}", "{" + strings.Repeat(",", 1<<21) + "}", strings.Repeat("up ", 1<<20)} {
		quick(t, "Read", func() {
			if made, e := labels.Read(text); e != api.ErrLabels || len(made) != 0 {
				t.Errorf("Read of %.9q and so on: %d", text, e)
			}
		})
	}
	quick(t, "a long value", func() {
		long := set("__name__", strings.Repeat("x", 1<<25), "a", strings.Repeat("\x01", 1<<25))
		if text := labels.Text(long); len(text) != 5<<25+len(`{a=""}`) {
			t.Errorf("Text of long values: %d bytes", len(text))
		}
	})
}

// P1, rule 1: vectors of very many elements, in any order, and filters of very many matchers.
func TestGreatestVectors(t *testing.T) {
	const n = 200000
	var v []api.Elem
	for i := range n {
		v = append(v, api.Elem{Labels: set("__name__", "up", "a", fmt.Sprintf("%07d", i*7919%n)), V: float64(i)})
	}
	quick(t, "Vector", func() {
		made, e := labels.Vector(v)
		if e != 0 || len(made) != n || made[1].Labels[1].Value != "0000001" {
			t.Errorf("Vector of many elements: %d", e)
		}
		if _, e := labels.Vector(append(slices.Clone(v), v[n/2])); e != api.ErrVector {
			t.Errorf("Vector of many elements, one twice: %d", e)
		}
	})
	var ms []api.Matcher
	for i := range n {
		ms = append(ms, api.Matcher{Name: "a", Op: 1 + i%4, Value: []string{"x", "y", "x|y", "y*"}[i%4]})
	}
	quick(t, "Compile", func() {
		f := filter(t, ms...)
		if !f.Holds(set("a", "x")) || f.Holds(set("a", "y")) {
			t.Error("Holds of many matchers")
		}
		if _, at, e := labels.Compile(append(slices.Clone(ms), api.Matcher{})); at != n || e != api.ErrKind {
			t.Errorf("Compile of many matchers, the last at fault: %d at %d", e, at)
		}
	})
}

// P1, rule 1: no call panics, and each one answers by its words, whatever it is given.
func TestTotal(t *testing.T) {
	c := newChance(10)
	ops := []int{0, 1, 2, 3, 4, 5, -1, math.MaxInt, math.MinInt, 1 << 32}
	for range 20000 {
		ls := c.list(4)
		checkMake(t, ls)
		checkParts(t, ls, pick(c, names()), pick(c, values()))
		checkKeep(t, ls, c.names(3))
		checkText(t, ls)
		checkRead(t, pick(c, names())+pick(c, values())+pick(c, names()))
		checkVector(t, []api.Elem{{Labels: c.any(3)}, {Labels: c.any(3)}, {Labels: ls}})
		m := api.Matcher{Name: pick(c, names()), Op: pick(c, ops), Value: pick(c, values())}
		if f := checkCompile(t, []api.Matcher{m}); f.Holds(ls) != (f != nil && wordsHolds([]api.Matcher{m}, ls)) {
			t.Fatalf("the filter of %+v over %q", m, ls)
		}
	}
}

// P1, rule 4: an empty list is as good as nil.
func TestEmptyLists(t *testing.T) {
	for _, ls := range [][]api.Label{nil, {}, set("a", "1")[:0]} {
		checkMake(t, ls)
		checkParts(t, ls, "a", "1")
		checkKeep(t, ls, []string{})
		checkText(t, ls)
		checkVector(t, []api.Elem{{Labels: ls}})
		if labels.Compare(ls, nil) != 0 || labels.Compare(nil, ls) != 0 || labels.Key(ls, []string{}, true) != labels.Key(nil, nil, false) {
			t.Errorf("Compare and Key of %#v", ls)
		}
		if !filter(t).Holds(ls) {
			t.Errorf("Holds of %#v", ls)
		}
	}
	checkVector(t, []api.Elem{{Labels: nil}, {Labels: []api.Label{}}})
	filter(t, []api.Matcher{}...)
}

// A question is all that the calls may be given.
type question struct {
	a, b        []api.Label
	names       []string
	name, value string
	text        string
	v           []api.Elem
	ms          []api.Matcher
}

// An answer is all that they answer to it, each call by its words.
type answer struct {
	made        []api.Label
	with        []api.Label
	kept, other []api.Label
	read        []api.Label
	vector      []api.Elem
	texts       []string // Get's, Key's, Text's
	plain       string   // what isn't memory
}

func ask(q question) answer {
	var r answer
	var e1, e2, e3, e5 api.Errno
	var at int
	var blank []bool
	r.made, e1 = labels.Make(q.a)
	r.with = labels.With(q.a, q.name, q.value)
	r.kept, r.other = labels.Keep(q.a, q.names, false), labels.Keep(q.a, q.names, true)
	r.read, e2 = labels.Read(q.text)
	r.vector, e3 = labels.Vector(q.v)
	r.texts = []string{labels.Get(q.a, q.name), labels.Key(q.a, q.names, false), labels.Key(q.a, q.names, true), labels.Text(q.a)}
	f, at, e5 := labels.Compile(q.ms)
	for _, m := range q.ms {
		yes, _ := labels.Blank(m)
		blank = append(blank, yes)
	}
	r.plain = fmt.Sprint(e1, e2, e3, at, e5, f.Holds(q.a), f.Holds(q.b), blank, labels.Valid(q.a), labels.Compare(q.a, q.b))
	return r
}

func (r answer) String() string {
	return fmt.Sprintf("%q %v", fmt.Sprint(r.made, r.with, r.kept, r.other, r.read, r.vector, r.texts), r.plain)
}

func (c chance) question(slips bool) question {
	q := question{a: c.any(5), b: c.any(5), names: c.names(4), name: pick(c, names()), value: pick(c, values()), v: c.elems(4, slips), ms: c.matchers(3, slips)}
	if !slips {
		q.a, q.b = c.set(5), c.set(5)
	}
	q.text = labels.Text(c.set(4))
	if slips && c.dice.IntN(4) == 0 {
		q.text += pick(c, names())
	}
	return q
}

// marked: a list with spare room in which marks lie.
func marked[T any](list []T, mark T) []T {
	made := append(slices.Clone(list), mark, mark)
	return made[:len(list)]
}

// mark gives each list of a question spare room with marks.
func (q *question) mark() {
	label := api.Label{Name: "mark", Value: "x"}
	q.a, q.b, q.names = marked(q.a, label), marked(q.b, label), marked(q.names, "mark")
	for i := range q.v {
		q.v[i].Labels = marked(q.v[i].Labels, label)
	}
	q.v = marked(q.v, api.Elem{V: 99})
	q.ms = marked(q.ms, api.Matcher{Name: "mark", Op: 9})
}

// room: all that a question's lists hold, their spare room too.
func (q question) room() string {
	var b strings.Builder
	fmt.Fprintln(&b, q.a[:cap(q.a)], q.b[:cap(q.b)], q.names[:cap(q.names)], q.v[:cap(q.v)], q.ms[:cap(q.ms)])
	for _, x := range q.v {
		fmt.Fprintln(&b, x.Labels[:cap(x.Labels)])
	}
	return b.String()
}

// P1, rule 5: what is handed in stays as it is, its spare room too, and what that room holds counts for nothing.
func TestGivenStays(t *testing.T) {
	c := newChance(11)
	for i := range 3000 {
		q := c.question(i%2 == 0)
		want := ask(q).String()
		q.mark()
		before := q.room()
		if got := ask(q).String(); got != want {
			t.Fatalf("%s, and with marks behind the lists %s", want, got)
		}
		if after := q.room(); after != before {
			t.Fatalf("%s is left of %s", after, before)
		}
	}
}

// overwritten: texts in memory that is the caller's own, and a call that writes over them.
type overwritten struct{ held [][]byte }

func (o *overwritten) text(s string) string {
	b := []byte(s)
	o.held = append(o.held, b)
	return unsafe.String(unsafe.SliceData(b), len(b))
}

func (o *overwritten) labels(ls []api.Label) []api.Label {
	var made []api.Label
	for _, l := range ls {
		made = append(made, api.Label{Name: o.text(l.Name), Value: o.text(l.Value)})
	}
	return made
}

func (o *overwritten) matchers(ms []api.Matcher) []api.Matcher {
	var made []api.Matcher
	for _, m := range ms {
		made = append(made, api.Matcher{Name: o.text(m.Name), Op: m.Op, Value: o.text(m.Value)})
	}
	return made
}

func (o *overwritten) question(q question) question {
	made := question{a: o.labels(q.a), b: o.labels(q.b), name: o.text(q.name), value: o.text(q.value), text: o.text(q.text), ms: o.matchers(q.ms)}
	for _, name := range q.names {
		made.names = append(made.names, o.text(name))
	}
	for _, x := range q.v {
		made.v = append(made.v, api.Elem{Labels: o.labels(x.Labels), V: x.V})
	}
	return made
}

func (o *overwritten) spoil() {
	for _, b := range o.held {
		for i := range b {
			b[i] = '?'
		}
	}
}

// P1, rule 5: what is answered doesn't change with the texts and lists that were handed in.
func TestAnswersOutliveTexts(t *testing.T) {
	c := newChance(12)
	for i := range 3000 {
		var o overwritten
		q := c.question(i%2 == 0)
		want := ask(q).String()
		mine := o.question(q)
		got := ask(mine)
		o.spoil()
		clear(mine.a)
		clear(mine.v)
		if got.String() != want {
			t.Fatalf("%s, and after a change of the texts %s", want, got)
		}
	}
}

// P1, rule 5: a filter keeps copies: it answers the same once the matchers' list and texts have changed.
func TestFilterKeepsCopies(t *testing.T) {
	c := newChance(13)
	for range 3000 {
		var o overwritten
		ms := c.matchers(4, false)
		mine := o.matchers(ms)
		f := filter(t, mine...)
		o.spoil()
		for i := range mine {
			mine[i] = api.Matcher{Name: "a", Op: api.MatchEq, Value: "changed"}
		}
		for range 3 {
			ls := c.any(5)
			if got := f.Holds(ls); got != wordsHolds(ms, ls) {
				t.Fatalf("the filter of %+v, changed since: Holds(%q) = %t", ms, ls, got)
			}
		}
	}
}

// A stretch of memory, from its first byte to behind its last.
type stretch struct{ from, to uintptr }

// memory: the stretches that things take up, spare room too, and the things themselves, so that nothing newer comes to lie there.
type memory struct {
	all  []stretch
	kept []any
}

func (m *memory) add(p unsafe.Pointer, size uintptr, thing any) {
	m.kept = append(m.kept, thing)
	if size > 0 {
		m.all = append(m.all, stretch{uintptr(p), uintptr(p) + size})
	}
}

func (m *memory) text(s string) { m.add(unsafe.Pointer(unsafe.StringData(s)), uintptr(len(s)), s) }

func (m *memory) labels(ls []api.Label) {
	m.add(unsafe.Pointer(unsafe.SliceData(ls)), uintptr(cap(ls))*unsafe.Sizeof(api.Label{}), ls)
	for _, l := range ls[:cap(ls)] {
		m.text(l.Name)
		m.text(l.Value)
	}
}

func (m *memory) vector(v []api.Elem) {
	m.add(unsafe.Pointer(unsafe.SliceData(v)), uintptr(cap(v))*unsafe.Sizeof(api.Elem{}), v)
	for _, x := range v[:cap(v)] {
		m.labels(x.Labels)
	}
}

func (m *memory) answer(r answer) {
	for _, ls := range [][]api.Label{r.made, r.with, r.kept, r.other, r.read} {
		m.labels(ls)
	}
	m.vector(r.vector)
	for _, s := range r.texts {
		m.text(s)
	}
}

func (m *memory) question(q question) {
	m.labels(q.a)
	m.labels(q.b)
	m.vector(q.v)
	for _, s := range append(slices.Clone(q.names), q.name, q.value, q.text) {
		m.text(s)
	}
}

// shared: do two stretches share a byte?
func (m *memory) shared() bool {
	slices.SortFunc(m.all, func(a, b stretch) int { return cmp.Compare(a.from, b.from) })
	for i := 1; i < len(m.all); i++ {
		if m.all[i].from < m.all[i-1].to {
			return true
		}
	}
	return false
}

// P1, rule 5: no two of what is handed in and what is answered, now or to the same question again, share memory.
func TestNewMemory(t *testing.T) {
	c, stretches := newChance(14), 0
	for range 500 {
		var o overwritten
		var m memory
		q := o.question(c.question(false))
		m.question(q)
		m.answer(ask(q))
		m.answer(ask(q))
		if m.shared() {
			t.Fatalf("memory is shared in the answers to %+v", q)
		}
		stretches += len(m.all)
		runtime.KeepAlive(m.kept)
	}
	if stretches < 20000 {
		t.Errorf("%d stretches", stretches)
	}
}

// P1, rule 6, and P2: the same question has the same answer, whatever was asked between; a filter's too.
func TestSameAnswerAgain(t *testing.T) {
	c := newChance(15)
	var list []question
	var want []string
	for i := range 500 {
		list = append(list, c.question(i%2 == 0))
		want = append(want, ask(list[i]).String())
	}
	for i := len(list) - 1; i >= 0; i-- {
		if got := ask(list[i]).String(); got != want[i] {
			t.Fatalf("%s, and later %s", want[i], got)
		}
	}
	f := filter(t, c.matchers(3, false)...)
	var held []bool
	for _, q := range list {
		held = append(held, f.Holds(q.a))
	}
	for i := len(list) - 1; i >= 0; i-- {
		if f.Holds(list[i].a) != held[i] {
			t.Fatalf("Holds(%q): %t, and later not so", list[i].a, held[i])
		}
	}
}

// settled: how many goroutines there are, once those have ended that the runtime or an earlier test still had: at most n, unless one was left behind since there were n.
func settled(n int) int {
	now := runtime.NumGoroutine()
	for tries := 0; now > n && tries < 500; tries++ {
		time.Sleep(10 * time.Millisecond)
		now = runtime.NumGoroutine()
	}
	return now
}

// P1, rule 10: calls beside each other, over the same lists too, answer what they would have answered alone; and no call begins a goroutine.
func TestBesideEachOther(t *testing.T) {
	c := newChance(16)
	var list []question
	var want []string
	before := runtime.NumGoroutine()
	for i := range 200 {
		list = append(list, c.question(i%2 == 0))
		want = append(want, ask(list[i]).String())
	}
	if after := settled(before); after > before {
		t.Errorf("%d goroutines, and then %d", before, after)
	}
	var all sync.WaitGroup
	for g := range 8 {
		all.Go(func() {
			for i := range list {
				k := (i*(2*g+1) + g) % len(list)
				if got := ask(list[k]).String(); got != want[k] {
					t.Errorf("%s, and beside others %s", want[k], got)
				}
			}
		})
	}
	all.Wait()
}
