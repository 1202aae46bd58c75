package fns_test

import (
	"cmp"
	"fmt"
	"math"
	"runtime"
	"slices"
	"strings"
	"sync"
	"testing"
	"time"
	"unsafe"

	"weir/api"
	"weir/fns"
)

// A question is all that the calls may be given.
type question struct {
	name                      string
	args                      []api.Value
	at                        int64
	v                         []api.Elem
	dst, template, src, regex string
	sep                       string
	srcs                      []string
	q                         float64
	down                      bool
	ms                        []api.Matcher
}

func (c chance) question(slips bool) question {
	q := question{
		name: pick(c, names()), at: c.instant(), v: c.vector(8, slips), dst: c.label(slips), template: c.template(slips), src: c.label(slips), regex: c.pattern(slips),
		sep: c.sep(slips), srcs: c.labels(5, slips), q: c.dice.Float64(), down: c.yes(), ms: c.matchers(5),
	}
	if c.yes() {
		q.v = c.apart(8)
	}
	if slips && c.one(20) {
		q.name = pick(c, c.wrong)
	}
	if c.one(6) {
		q.q = pick(c, special())
	}
	q.args = c.arguments(q.name, slips)
	return q
}

// answers: the vectors that the calls answer, by their names; and all that they answer, as a text.
type answers struct {
	vectors map[string][]api.Elem
	text    string
}

func ask(q question) answers {
	a := answers{vectors: map[string][]api.Elem{}}
	value, e := fns.Call(q.name, q.args, q.at)
	a.vectors[q.name] = value.Vector
	a.text = fmt.Sprintln(fns.Known(q.name), toldValue(value), int(e))
	tell := func(call string, v []api.Elem, e api.Errno) {
		a.vectors[call] = v
		a.text += fmt.Sprintln(call, told(v), int(e))
	}
	v, e := fns.LabelReplace(q.v, q.dst, q.template, q.src, q.regex)
	tell("LabelReplace", v, e)
	v, e = fns.LabelJoin(q.v, q.dst, q.sep, q.srcs)
	tell("LabelJoin", v, e)
	v, e = fns.Histogram(q.q, q.v)
	tell("Histogram", v, e)
	v, e = fns.Sort(q.v, q.down)
	tell("Sort", v, e)
	tell("Absent", fns.Absent(q.ms), 0)
	return a
}

// P1, rule 1: no call panics, and each one answers by its words, whatever it is given.
func TestTotal(t *testing.T) {
	c := newChance(30)
	texts := []string{"", "a", "b", "__name__", "1", "\xff", "a:b", "\x00", "$1", "(.*)", "(", "le", "+Inf", strings.Repeat("a", 300)}
	anyLabels := func() []api.Label {
		var ls []api.Label
		for range c.dice.IntN(3) {
			ls = append(ls, api.Label{Name: pick(c, texts), Value: pick(c, texts)})
		}
		return ls
	}
	anyVector := func() []api.Elem {
		var v []api.Elem
		for range c.dice.IntN(3) {
			v = append(v, api.Elem{Labels: anyLabels(), V: pick(c, special())})
		}
		return v
	}
	answered := 0
	for range 20000 {
		name := pick(c, append(names(), c.wrong[:5]...))
		var l []api.Value
		for range c.dice.IntN(6) {
			l = append(l, api.Value{Type: pick(c, []int{1, 2, 3, 3, 4, 0, -1, math.MaxInt}), V: pick(c, special()), Text: pick(c, texts), Vector: anyVector()})
		}
		if s := signatures()[name]; c.yes() {
			for i := range min(len(l), len(s.types)) {
				l[i].Type = s.types[i]
			}
			l = l[:min(len(l), len(s.types))]
		}
		if checkCall(t, name, l, pick(c, instants())) == 0 {
			answered++
		}
		checkReplace(t, anyVector(), pick(c, texts), pick(c, texts), pick(c, texts), pick(c, texts))
		checkJoin(t, anyVector(), pick(c, texts), pick(c, texts), []string{pick(c, texts), pick(c, texts)}[:c.dice.IntN(3)])
		checkHistogram(t, pick(c, special()), anyVector())
		checkSort(t, anyVector(), c.yes())
		checkAbsent(t, []api.Matcher{{Name: pick(c, texts), Op: c.dice.IntN(7) - 1, Value: pick(c, texts)}, {Name: pick(c, texts), Op: 1, Value: pick(c, texts)}}[:c.dice.IntN(3)])
	}
	if answered < 1000 {
		t.Errorf("%d calls were answered", answered)
	}
}

// quick: the time that a call takes must be no more than one that goes through what it is given once, or nearly so, could take on a slow machine.
func quick(t *testing.T, what string, call func()) {
	t.Helper()
	begin := time.Now()
	call()
	if took := time.Since(begin); took > 20*time.Second {
		t.Errorf("%s: %s", what, took)
	}
}

// great: a vector of very many elements, which are buckets of many histograms.
func great(n int) []api.Elem {
	var v []api.Elem
	for i := range n {
		v = append(v, api.Elem{Labels: set("__name__", "up", "a", fmt.Sprintf("%07d", i*7919%n), "le", fmt.Sprint(i%7)), V: float64(i * 31 % n)})
	}
	return v
}

func manyNames(n int) []string {
	var names []string
	for i := range n {
		names = append(names, fmt.Sprintf("n%07d", n-i))
	}
	return names
}

// P1, rule 1: very many elements, and with them very many names and arguments, come to an end.
func TestGreatestVectors(t *testing.T) {
	const n = 50000
	v := great(n)
	for _, name := range names() {
		quick(t, name, func() {
			var l []api.Value
			for _, kind := range signatures()[name].types {
				l = append(l, map[int]api.Value{api.ValScalar: numberArg(0.5), api.ValString: textArg("b"), api.ValVector: vectorArg(v)}[kind])
			}
			if a, e := fns.Call(name, l, 0); e != 0 || a.Type == api.ValVector && len(a.Vector) != n && name != "vector" {
				t.Errorf("%s of many elements: %d, %d", name, len(a.Vector), e)
			}
		})
	}
	quick(t, "many names", func() {
		if got, e := fns.LabelJoin(v, "b", "", append(manyNames(n), "le", "a")); e != 0 || len(got) != n || got[1].Labels[2] != (api.Label{Name: "b", Value: got[1].Labels[3].Value + "0000001"}) {
			t.Errorf("LabelJoin of many elements and names: %d, %d", len(got), e)
		}
		if got, e := fns.LabelJoin(v, "b", "-", append(manyNames(n), "le", "a")); e != api.ErrLong {
			t.Errorf("LabelJoin of many elements and names: %d, %d", len(got), e)
		}
	})
	quick(t, "an element each", func() {
		same := make([]api.Elem, n)
		for i, x := range v {
			same[i] = api.Elem{Labels: set("a", "1", "le", x.Labels[1].Value), V: 1}
		}
		if got, e := fns.Histogram(0.5, same); e != 0 || len(got) != 1 {
			t.Errorf("one histogram of many buckets: %d, %d", len(got), e)
		}
		if got, e := fns.Sort(same, true); e != 0 || len(got) != n {
			t.Errorf("many elements of one value: %d, %d", len(got), e)
		}
	})
}

// P1, rule 1: elements of very many labels, and very many matchers.
func TestGreatestLabels(t *testing.T) {
	const n = 100000
	names := manyNames(n)
	ls := set("__name__", "x", "a", "1")
	var ms []api.Matcher
	for _, name := range slices.Backward(names) {
		ls = append(ls, api.Label{Name: name, Value: "1"})
	}
	for _, name := range names {
		ms = append(ms, api.Matcher{Name: name, Op: 1, Value: "1"}, api.Matcher{Name: name, Op: 1, Value: "1"}, api.Matcher{Name: "a" + name, Op: 1, Value: "1"}, api.Matcher{Name: "a" + name, Op: 1, Value: "2"})
	}
	v := []api.Elem{{Labels: ls, V: 1}, {Labels: ls[1:], V: 2}, {Labels: ls[2:], V: 3}}
	quick(t, "many labels", func() {
		if got, e := fns.LabelJoin(v, "b", "", names[:api.MaxMade]); e != 0 || len(got) != 3 || len(got[0].Labels) != n+3 || len(got[0].Labels[2].Value) != api.MaxMade {
			t.Errorf("LabelJoin of many labels: %d, %d", len(got), e)
		}
		if _, e := fns.LabelJoin(v, "b", "", names); e != api.ErrLong {
			t.Errorf("LabelJoin of many labels: %d", e)
		}
		if got, e := fns.LabelReplace(v, "b", "$0", names[n/2], "1"); e != 0 || len(got) != 3 || len(got[0].Labels) != n+3 {
			t.Errorf("LabelReplace of many labels: %d, %d", len(got), e)
		}
		if a, e := fns.Call("abs", args(v[:2]), 0); e != api.ErrDup {
			t.Errorf("abs of many labels: %d, %d", len(a.Vector), e)
		}
		if got := fns.Absent(ms); len(got) != 1 || len(got[0].Labels) != n || got[0].Labels[0].Name != names[n-1] {
			t.Errorf("Absent of many matchers: %d", len(got))
		}
	})
}

// P1, rule 1: texts that would come to far more than there is memory for are refused, and come to an end.
func TestGreatestTexts(t *testing.T) {
	const n = 1 << 20
	long := strings.Repeat("x", n)
	v := []api.Elem{{Labels: set("a", long), V: 1}, {Labels: set("b", "1"), V: 1}}
	for _, template := range []string{strings.Repeat("$0", n), strings.Repeat("${1}$2", n), strings.Repeat("$x", n), long} {
		quick(t, template[:6], func() {
			if got, e := fns.LabelReplace(v, "c", template, "a", "(?P<x>(.*))"); e != api.ErrLong || len(got) != 0 {
				t.Errorf("%s..: %d, %d", template[:6], len(got), e)
			}
		})
	}
	for _, template := range []string{strings.Repeat("$2", n) + "$3", strings.Repeat("$nothing", n) + "$3"} {
		quick(t, template[:6], func() {
			if got, e := fns.LabelReplace(v, "c", template, "a", "(x*)()(x)"); e != 0 || len(got) != 2 || got[0].Labels[1].Value != "x" {
				t.Errorf("%s..: %d, %d", template[:6], len(got), e)
			}
		})
	}
	quick(t, "LabelJoin", func() {
		for _, srcs := range [][]string{slices.Repeat([]string{"a"}, n), slices.Repeat([]string{"q"}, n)} {
			if got, e := fns.LabelJoin(v, "c", long, srcs); e != api.ErrLong || len(got) != 0 {
				t.Errorf("LabelJoin: %d, %d", len(got), e)
			}
		}
	})
}

// P1, rule 1: small calls asked very often come to an end: the table costs little.
func TestOftenAsked(t *testing.T) {
	v := args(`v:x{a="1"} 1; x{a="2"} 2`)
	quick(t, "many calls", func() {
		for range 1 << 17 {
			fns.Call("abs", v, 0)
			fns.Call("pi", nil, 0)
			fns.Known("rate")
		}
	})
}

// P1, rules 3 and 4: beside an error there is nothing; an empty list is as good as nil.
func TestNothing(t *testing.T) {
	c, refused := newChance(31), 0
	for range 6000 {
		q := c.question(true)
		if a, e := fns.Call(q.name, q.args, q.at); e != 0 {
			refused++
			if !sameValue(a, api.Value{}) {
				t.Errorf("%s answers %s, %d", q.name, toldValue(a), e)
			}
		}
		for call, two := range pairs(q) {
			if two.e != 0 && len(two.v) != 0 {
				t.Errorf("%s answers %s, %d", call, told(two.v), two.e)
			}
		}
	}
	if refused < 1000 {
		t.Errorf("%d calls were refused", refused)
	}
	for range 4000 {
		q := c.question(false)
		want := ask(q).text
		q.v, q.srcs, q.ms, q.args = orEmpty(q.v), orEmpty(q.srcs), orEmpty(q.ms), orEmpty(q.args)
		for i, a := range q.args {
			q.args[i].Vector = orEmpty(a.Vector)
		}
		for _, v := range append(vectorsOf(q.args), q.v) {
			for i := range v {
				v[i].Labels = orEmpty(v[i].Labels)
			}
		}
		if got := ask(q).text; got != want {
			t.Fatalf("%s, and with empty lists for nil %s", want, got)
		}
	}
}

// A pair is an answer with its error.
type pair struct {
	v []api.Elem
	e api.Errno
}

func pairs(q question) map[string]pair {
	out := map[string]pair{}
	v, e := fns.LabelReplace(q.v, q.dst, q.template, q.src, q.regex)
	out["LabelReplace"] = pair{v, e}
	v, e = fns.LabelJoin(q.v, q.dst, q.sep, q.srcs)
	out["LabelJoin"] = pair{v, e}
	v, e = fns.Histogram(q.q, q.v)
	out["Histogram"] = pair{v, e}
	v, e = fns.Sort(q.v, q.down)
	out["Sort"] = pair{v, e}
	return out
}

func vectorsOf(args []api.Value) [][]api.Elem {
	var out [][]api.Elem
	for _, a := range args {
		out = append(out, a.Vector)
	}
	return out
}

// orEmpty: the list, or an empty one that isn't nil, with marks in its spare room.
func orEmpty[T any](list []T) []T {
	if list == nil {
		return make([]T, 3)[:0]
	}
	return list
}

// marked: a list with spare room in which marks lie.
func marked[T any](list []T, mark T) []T {
	made := append(slices.Clone(list), mark, mark, mark, mark, mark, mark)
	return made[:len(list)]
}

func markedVector(v []api.Elem) []api.Elem {
	made := marked(v, api.Elem{V: 99})
	for i, x := range v {
		made[i].Labels = marked(x.Labels, api.Label{Name: "mark", Value: "x"})
	}
	return made
}

// marked: the question, each list of it with spare room in which marks lie.
func (q question) marked() question {
	q.v, q.srcs, q.ms = markedVector(q.v), marked(q.srcs, "a"), marked(q.ms, api.Matcher{Name: "mark", Op: 1, Value: "x"})
	q.args = marked(q.args, numberArg(99))
	for i, a := range q.args {
		q.args[i].Vector = markedVector(a.Vector)
	}
	return q
}

// room: all that a question's lists hold, their spare room too.
func (q question) room() string {
	var b strings.Builder
	fmt.Fprintln(&b, q.srcs[:cap(q.srcs)], q.ms[:cap(q.ms)], q.args[:cap(q.args)])
	for _, v := range append(vectorsOf(q.args), q.v) {
		fmt.Fprintln(&b, v[:cap(v)])
		for _, x := range v {
			fmt.Fprintln(&b, x.Labels[:cap(x.Labels)])
		}
	}
	return b.String()
}

// P1, rule 5: what is handed in stays as it is, its spare room too, and what that room holds counts for nothing.
func TestGivenStays(t *testing.T) {
	c := newChance(32)
	for i := range 6000 {
		q := c.question(i%4 == 0)
		want := ask(q).text
		q = q.marked()
		before := q.room()
		if got := ask(q).text; got != want {
			t.Fatalf("%s, and with marks behind the lists %s", want, got)
		}
		if after := q.room(); after != before {
			t.Fatalf("%s is left of %s", after, before)
		}
	}
}

// overwritten: texts in memory that is the caller's own, and a call that writes over them.
type overwritten struct{ held [][]byte }

func (o *overwritten) text(s string) string {
	b := []byte(s)
	o.held = append(o.held, b)
	return unsafe.String(unsafe.SliceData(b), len(b))
}

func (o *overwritten) vector(v []api.Elem) []api.Elem {
	var made []api.Elem
	for _, x := range v {
		var ls []api.Label
		for _, l := range x.Labels {
			ls = append(ls, api.Label{Name: o.text(l.Name), Value: o.text(l.Value)})
		}
		made = append(made, api.Elem{Labels: ls, V: x.V})
	}
	return made
}

func (o *overwritten) question(q question) question {
	mine := question{name: o.text(q.name), at: q.at, v: o.vector(q.v), dst: o.text(q.dst), template: o.text(q.template), src: o.text(q.src), regex: o.text(q.regex), sep: o.text(q.sep), q: q.q, down: q.down}
	for _, a := range q.args {
		mine.args = append(mine.args, api.Value{Type: a.Type, V: a.V, Text: o.text(a.Text), Vector: o.vector(a.Vector)})
	}
	for _, s := range q.srcs {
		mine.srcs = append(mine.srcs, o.text(s))
	}
	for _, m := range q.ms {
		mine.ms = append(mine.ms, api.Matcher{Name: o.text(m.Name), Op: m.Op, Value: o.text(m.Value)})
	}
	return mine
}

func (o *overwritten) spoil() {
	for _, b := range o.held {
		for i := range b {
			b[i] = '?'
		}
	}
}

func toldAll(vectors map[string][]api.Elem) string {
	var b strings.Builder
	for _, call := range []string{"LabelReplace", "LabelJoin", "Histogram", "Sort", "Absent"} {
		fmt.Fprintln(&b, told(vectors[call]))
	}
	return b.String()
}

// P1, rules 5 and 6: what is answered doesn't change with the texts and lists that were handed in, and what was handed in isn't asked again.
func TestAnswersOutliveTexts(t *testing.T) {
	c := newChance(33)
	for i := range 6000 {
		var o overwritten
		q := c.question(i%4 == 0)
		want := ask(q)
		kept := toldAll(want.vectors) + told(want.vectors[q.name])
		mine := o.question(q)
		got := ask(mine).vectors
		own := got[mine.name]
		o.spoil()
		for _, v := range append(vectorsOf(mine.args), mine.v) {
			for _, x := range v {
				clear(x.Labels)
			}
			clear(v)
		}
		clear(mine.args)
		clear(mine.srcs)
		clear(mine.ms)
		if now := toldAll(got) + told(own); now != kept {
			t.Fatalf("%s, and after a change of the texts %s", kept, now)
		}
		if again := ask(q).text; again != want.text {
			t.Fatalf("%s, and later %s", want.text, again)
		}
	}
}

// A stretch of memory, from its first byte to behind its last.
type stretch struct{ from, to uintptr }

// memory: the stretches that things take up, spare room too, and the things themselves, so that nothing newer comes to lie there.
type memory struct {
	all  []stretch
	kept []any
}

func (m *memory) add(p unsafe.Pointer, size uintptr, thing any) {
	m.kept = append(m.kept, thing)
	if size > 0 {
		m.all = append(m.all, stretch{uintptr(p), uintptr(p) + size})
	}
}

func (m *memory) text(s string) { m.add(unsafe.Pointer(unsafe.StringData(s)), uintptr(len(s)), s) }

func addList[T any](m *memory, l []T) {
	var one T
	m.add(unsafe.Pointer(unsafe.SliceData(l)), uintptr(cap(l))*unsafe.Sizeof(one), l)
}

func (m *memory) vector(v []api.Elem) {
	addList(m, v)
	for _, x := range v[:cap(v)] {
		addList(m, x.Labels)
		for _, l := range x.Labels[:cap(x.Labels)] {
			m.text(l.Name)
			m.text(l.Value)
		}
	}
}

func (m *memory) question(q question) {
	m.vector(q.v)
	addList(m, q.args)
	addList(m, q.srcs)
	addList(m, q.ms)
	for _, a := range q.args {
		m.vector(a.Vector)
		m.text(a.Text)
	}
	for _, s := range append(slices.Clone(q.srcs), q.name, q.dst, q.template, q.src, q.regex, q.sep) {
		m.text(s)
	}
	for _, x := range q.ms {
		m.text(x.Name)
		m.text(x.Value)
	}
}

// shared: do two stretches share a byte?
func (m *memory) shared() bool {
	slices.SortFunc(m.all, func(a, b stretch) int { return cmp.Compare(a.from, b.from) })
	for i := 1; i < len(m.all); i++ {
		if m.all[i].from < m.all[i-1].to {
			return true
		}
	}
	return false
}

// P1, rule 5: no two of what is handed in and what is answered, now or to the same question again, share memory.
func TestNewMemory(t *testing.T) {
	c, stretches := newChance(34), 0
	for range 6000 {
		q := c.question(false)
		var o overwritten
		var m memory
		mine := o.question(q)
		m.question(mine)
		for range 2 {
			for _, v := range ask(mine).vectors {
				m.vector(v)
			}
		}
		if m.shared() {
			t.Fatalf("memory is shared in the answers to %+v", q)
		}
		stretches += len(m.all)
		runtime.KeepAlive(m.kept)
	}
	if stretches < 500000 {
		t.Errorf("%d stretches", stretches)
	}
}

// P1, rule 6, and P2: the same question has the same answer, whatever was asked between.
func TestSameAnswerAgain(t *testing.T) {
	c := newChance(35)
	var list []question
	var want []string
	for i := range 3000 {
		list = append(list, c.question(i%4 == 0))
		want = append(want, ask(list[i]).text)
	}
	for i := len(list) - 1; i >= 0; i-- {
		if got := ask(list[i]).text; got != want[i] {
			t.Fatalf("%s, and later %s", want[i], got)
		}
	}
}

// otherwise: the number, or, of a NaN, another one.
func otherwise(v float64) float64 {
	if v != v {
		return math.Float64frombits(math.Float64bits(v) ^ 1<<63 ^ 1<<7)
	}
	return v
}

// P1, rule 7, and P2: a NaN's sign and payload count for nothing.
func TestAnyNaN(t *testing.T) {
	c := newChance(36)
	for range 4000 {
		q := c.question(false)
		want := ask(q).text
		q.q = otherwise(q.q)
		for i, a := range q.args {
			q.args[i].V = otherwise(a.V)
		}
		for _, v := range append(vectorsOf(q.args), q.v) {
			for i, x := range v {
				v[i].V = otherwise(x.V)
			}
		}
		if got := ask(q).text; got != want {
			t.Fatalf("%s, and with another NaN %s", want, got)
		}
	}
}

// settled: how many goroutines there are, once those have ended that the runtime or an earlier test still had: at most n, unless one was left behind since there were n.
func settled(n int) int {
	now := runtime.NumGoroutine()
	for tries := 0; now > n && tries < 500; tries++ {
		time.Sleep(10 * time.Millisecond)
		now = runtime.NumGoroutine()
	}
	return now
}

// P1, rule 10: calls beside each other, over the same lists too, answer what they would have answered alone; and no call begins a goroutine.
func TestBesideEachOther(t *testing.T) {
	c := newChance(37)
	var list []question
	var want []string
	before := runtime.NumGoroutine()
	for i := range 500 {
		list = append(list, c.question(i%4 == 0))
		want = append(want, ask(list[i]).text)
	}
	if after := settled(before); after > before {
		t.Errorf("%d goroutines, and then %d", before, after)
	}
	var all sync.WaitGroup
	for g := range 8 {
		all.Go(func() {
			for i := range list {
				k := (i*(2*g+1) + g) % len(list)
				if got := ask(list[k]).text; got != want[k] {
					t.Errorf("alone %s, and beside others %s", want[k], got)
				}
			}
		})
	}
	all.Wait()
}
