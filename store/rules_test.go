package store_test

import (
	"cmp"
	"fmt"
	"math"
	"runtime"
	"slices"
	"strings"
	"sync"
	"sync/atomic"
	"testing"
	"time"
	"unsafe"

	"weir/api"
	"weir/store"
)

// quick: the time that a call takes must be no more than one that goes through what it is given once, or nearly so, could take on a slow machine.
func quick(t *testing.T, what string, call func()) {
	t.Helper()
	begin := time.Now()
	call()
	if took := time.Since(begin); took > 20*time.Second {
		t.Errorf("%s: %s", what, took)
	}
}

// P1, rule 1: datasets far greater than may be, and very many matchers, come to an end.
func TestTooGreat(t *testing.T) {
	const n = 300000
	wider, text := wide(n), strings.Repeat("é", 1<<22)
	quick(t, "Check and Load", func() {
		for _, c := range []refusal{
			{data(make([]api.Series, n)...), 1000, api.ErrSize},
			{data(series(nil), series(wider)), 1, api.ErrSeries},
			{data(series(set("a", text))), 0, api.ErrLong},
			{data(series(set("__name__", text))), 0, api.ErrLong},
			{data(series(set(text, "x"))), 0, api.ErrSeries},
			{data(series(nil, make([]api.Sample, n)...)), 0, api.ErrPoint},
			{data(series(nil, run(n)...)), 0, api.ErrSize},
		} {
			checkCheck(t, c.d)
			if i, e := store.Check(c.d); i != c.i || e != c.e {
				t.Errorf("Check = %d, %d; want %d, %d", i, e, c.i, c.e)
			}
		}
	})
	var ms []api.Matcher
	for i := range n {
		ms = append(ms, match(fmt.Sprintf("b%07d", i), 1+i%2*2, ""))
	}
	s := loaded(t, example())
	quick(t, "very many matchers", func() {
		if got, e := s.Select(ms); e != 0 || !slices.Equal(got, []int{0, 1}) {
			t.Errorf("Select = %v, %d", got, e)
		}
		if got, e := s.Values(append(ms, match("job", 1, "a")), "job"); e != 0 || !slices.Equal(got, []string{"a"}) {
			t.Errorf("Values = %v, %d", got, e)
		}
		if got, e := s.Names(append(ms, match("a", 9, ""))); e != api.ErrKind || len(got) != 0 {
			t.Errorf("Names = %v, %d", got, e)
		}
	})
	quick(t, "Restrict", func() {
		d := data(append(make([]api.Series, n), series(wider, run(n)...), series(set("a", text, text, "\xff")))...)
		if kept, e := store.Restrict(d, []api.Matcher{match("a", 2, "")}); e != 0 || len(kept.Series) != 1 || !sameSeries(kept.Series[0], d.Series[n+1]) {
			t.Errorf("%d series, %d", len(kept.Series), e)
		}
		if kept, e := store.Restrict(d, nil); e != 0 || len(kept.Series) != n+2 {
			t.Errorf("%d series, %d", len(kept.Series), e)
		}
	})
}

// P1, rule 1: asking very often of the greatest stores comes to an end: a series isn't unpacked or gone through anew for each call.
func TestOftenAsked(t *testing.T) {
	const n = 300000
	long := loaded(t, data(series(nil, run(api.MaxSamples)...)))
	quick(t, "At and Window", func() {
		for k := range int64(n) {
			at := k * 7919 % api.MaxSamples * 1000
			if p, ok := long.At(0, at+1); !ok || p.T != at {
				t.Fatalf("At(0, %d) = %v, %v", at+1, p, ok)
			}
			if got := long.Window(0, at-1, at+1); len(got) != 1 || got[0].T != at {
				t.Fatalf("Window(0, %d, %d) = %v", at-1, at+1, got)
			}
		}
	})
	many := loaded(t, data(many(1000, 100)...))
	quick(t, "Select", func() {
		for k := range n {
			if got, e := many.Select([]api.Matcher{match("id", 1, fmt.Sprint(k%1000))}); e != 0 || len(got) != 1 {
				t.Fatalf("Select of %d = %v, %d", k%1000, got, e)
			}
			many.At(k%1000, int64(k))
			many.Labels(k % 1000)
		}
	})
}

// anySeries: a series of anything that a series' fields can hold.
func (c chance) anySeries() api.Series {
	var s api.Series
	for range c.dice.IntN(4) {
		s.Labels = append(s.Labels, api.Label{Name: pick(c, names()), Value: pick(c, values())})
	}
	for range c.dice.IntN(4) {
		s.Points = append(s.Points, api.Sample{T: pick(c, extremes()), V: pick(c, floats()), Stale: c.dice.IntN(2) == 0})
	}
	return s
}

// P1, rule 1: no call panics, and each one answers by its words, whatever it is given.
func TestTotal(t *testing.T) {
	c := newChance(10)
	ops := []int{0, 1, 2, 3, 4, 5, -1, math.MaxInt, math.MinInt, 1 << 32}
	for range 4000 {
		var d api.Dataset
		for range c.dice.IntN(4) {
			d.Series = append(d.Series, c.anySeries())
		}
		checkCheck(t, d)
		m := match(pick(c, names()), pick(c, ops), pick(c, append(values(), "(", "[", "a**", "a{9,1}", ".+")))
		checkRestrict(t, d, []api.Matcher{m})
		good := c.dataset(4, 3)
		s, w := loaded(t, good), wordsLoad(good)
		checkAsked(t, s, w, []api.Matcher{m}, pick(c, names()))
		checkAsked(t, s, w, []api.Matcher{c.matcher(), m}, pick(c, names()))
		i := pick(c, append(beyond(len(w)), 0, 1, 2))
		checkAt(t, s, w, i, pick(c, extremes()))
		checkWindow(t, s, w, i, pick(c, extremes()), pick(c, extremes()))
	}
}

// A question is all that the calls may be given.
type question struct {
	d        api.Dataset
	ms       []api.Matcher
	name     string
	i        int
	from, to int64
}

// An answer is all that they answer to it.
type answer struct {
	numbers []int
	set     []api.Label
	points  []api.Sample
	texts   [][]string
	data    []api.Dataset
	plain   string // what isn't memory
}

// put: what a store answers to a question, and what Restrict and Check do.
func put(s *store.Store, q question) answer {
	var r answer
	var e [4]api.Errno
	r.numbers, e[0] = s.Select(q.ms)
	r.set = s.Labels(q.i)
	at, ok := s.At(q.i, q.to)
	r.points = s.Window(q.i, q.from, q.to)
	names, f := s.Names(q.ms)
	values, g := s.Values(q.ms, q.name)
	e[1], e[2] = f, g
	r.texts = [][]string{names, values}
	kept, h := store.Restrict(q.d, q.ms)
	e[3] = h
	r.data = []api.Dataset{s.Data(), kept}
	fault, k := store.Check(q.d)
	r.plain = fmt.Sprint(s.Len(), at, ok, e, fault, k)
	return r
}

// ask: what the store of a question's dataset answers to it.
func ask(q question) answer {
	s, i, e := store.Load(q.d)
	r := put(s, q)
	r.plain += fmt.Sprint(" ", s == nil, i, e)
	return r
}

func (r answer) String() string {
	return fmt.Sprintf("%v %q %v %q %+v %s", r.numbers, r.set, r.points, r.texts, r.data, r.plain)
}

func (c chance) question(slips bool) question {
	q := question{d: c.dataset(8, 5), ms: c.matchers(2, slips), name: pick(c, goodNames()), i: c.dice.IntN(8), from: pick(c, extremes()), to: pick(c, extremes())}
	if slips && c.dice.IntN(2) == 0 {
		q.d = c.spoilt(q.d)
	}
	return q
}

// P1, rules 3 and 4: beside an error, or where there is nothing, there is nothing; an empty list is as good as nil.
func TestNothing(t *testing.T) {
	c := newChance(11)
	for range 300 {
		q := c.question(false)
		q.d.Series = append(q.d.Series, series(set("zz", "1")), series(set("zz", "2"), point(0, 1)))
		q.ms = nil
		want := ask(q).String()
		q.ms = []api.Matcher{}
		for i, s := range q.d.Series {
			q.d.Series[i] = series(append([]api.Label{}, s.Labels...), append([]api.Sample{}, s.Points...)...)
		}
		if got := ask(q).String(); got != want {
			t.Fatalf("%s, and with empty lists %s", want, got)
		}
	}
	if got, want := ask(question{d: data([]api.Series{}...)}).String(), ask(question{}).String(); got != want {
		t.Errorf("%s, and with an empty list %s", want, got)
	}
	spoilt := example()
	spoilt.Series[1].Points[1].T = 0
	if s, i, e := store.Load(spoilt); s != nil || i != 1 || e != api.ErrPoint {
		t.Errorf("Load = %v, %d, %d", s, i, e)
	}
	s := loaded(t, example())
	if p, ok := s.At(1, 70000); p != (api.Sample{}) || ok {
		t.Errorf("At = %v, %v", p, ok)
	}
	if got := s.Window(1, 0, 70000); len(got) != 0 {
		t.Errorf("Window = %v", got)
	}
}

// marked: a list with spare room in which marks lie.
func marked[T any](list []T, mark T) []T {
	made := append(slices.Clone(list), mark, mark)
	return made[:len(list)]
}

// mark gives each list of a question spare room with marks.
func (q *question) mark() {
	q.d.Series = marked(q.d.Series, series(set("mark", "x"), point(1, 1)))
	for i, s := range q.d.Series {
		q.d.Series[i].Labels = marked(s.Labels, api.Label{Name: "mark", Value: "x"})
		q.d.Series[i].Points = marked(s.Points, point(9, 9))
	}
	q.ms = marked(q.ms, api.Matcher{Name: "mark", Op: 9})
}

// room: all that a question's lists hold, their spare room too.
func (q question) room() string {
	var b strings.Builder
	fmt.Fprintln(&b, q.d.Series[:cap(q.d.Series)], q.ms[:cap(q.ms)])
	for _, s := range q.d.Series {
		fmt.Fprintln(&b, s.Labels[:cap(s.Labels)], s.Points[:cap(s.Points)])
	}
	return b.String()
}

// P1, rule 5: what is handed in stays as it is, its spare room too, and what that room holds counts for nothing.
func TestGivenStays(t *testing.T) {
	c := newChance(12)
	for i := range 3000 {
		q := c.question(i%2 == 0)
		want := ask(q).String()
		q.mark()
		before := q.room()
		if got := ask(q).String(); got != want {
			t.Fatalf("%s, and with marks behind the lists %s", want, got)
		}
		if after := q.room(); after != before {
			t.Fatalf("%s is left of %s", after, before)
		}
	}
}

// overwritten: texts in memory that is the caller's own, and a call that writes over them.
type overwritten struct{ held [][]byte }

func (o *overwritten) text(s string) string {
	b := []byte(s)
	o.held = append(o.held, b)
	return unsafe.String(unsafe.SliceData(b), len(b))
}

func (o *overwritten) question(q question) question {
	mine := q
	mine.d, mine.ms, mine.name = api.Dataset{}, nil, o.text(q.name)
	for _, m := range q.ms {
		mine.ms = append(mine.ms, api.Matcher{Name: o.text(m.Name), Op: m.Op, Value: o.text(m.Value)})
	}
	for _, s := range q.d.Series {
		var ls []api.Label
		for _, l := range s.Labels {
			ls = append(ls, api.Label{Name: o.text(l.Name), Value: o.text(l.Value)})
		}
		mine.d.Series = append(mine.d.Series, series(ls, slices.Clone(s.Points)...))
	}
	return mine
}

// spoil writes over a question's texts and lists.
func (o *overwritten) spoil(q question) {
	for _, b := range o.held {
		for i := range b {
			b[i] = '?'
		}
	}
	for i, s := range q.d.Series {
		for k := range s.Labels {
			s.Labels[k] = api.Label{Name: "spoilt", Value: "x"}
		}
		for k := range s.Points {
			s.Points[k] = point(-77, -7)
		}
		q.d.Series[i] = series(set("spoilt", "y"))
	}
	for i := range q.ms {
		q.ms[i] = match("spoilt", api.MatchEq, "z")
	}
}

// P1, rule 5: what is answered doesn't change with what was handed in.
func TestAnswersOutliveGiven(t *testing.T) {
	c := newChance(13)
	for i := range 3000 {
		var o overwritten
		q := c.question(i%2 == 0)
		want := ask(q).String()
		mine := o.question(q)
		got := ask(mine)
		o.spoil(mine)
		if got.String() != want {
			t.Fatalf("%s, and after a change of what was given %s", want, got)
		}
	}
}

// P1, rule 5, and the chapter's word on Store: a store answers the same once its dataset, its lists and their texts have changed, and so have the matchers that it was asked with; of points too that nobody had asked for till then.
func TestStoreKeepsCopies(t *testing.T) {
	c := newChance(14)
	for i := range 2000 {
		var o overwritten
		q := c.question(false)
		mine := o.question(q)
		s := loaded(t, mine.d)
		if i%2 == 0 {
			asked := o.question(q)
			put(s, asked)
			o.spoil(asked)
		}
		o.spoil(mine)
		w := wordsLoad(q.d)
		checkAsked(t, s, w, q.ms, q.name)
		checkAsked(t, s, w, nil, q.name)
		checkWindow(t, s, w, q.i, q.from, q.to)
		checkSeries(t, s, w)
		if got, want := put(s, q).String(), put(loaded(t, q.d), q).String(); got != want {
			t.Fatalf("%s, and of a dataset changed since %s", want, got)
		}
	}
}

// overwrite writes over an answer's lists, their spare room too.
func (r answer) overwrite() {
	for i := range r.numbers[:cap(r.numbers)] {
		r.numbers[:cap(r.numbers)][i] = -7
	}
	clear(r.set[:cap(r.set)])
	clear(r.points[:cap(r.points)])
	for _, list := range r.texts {
		clear(list[:cap(list)])
	}
	for _, d := range r.data {
		for _, s := range d.Series {
			clear(s.Labels[:cap(s.Labels)])
			for k := range s.Points[:cap(s.Points)] {
				s.Points[:cap(s.Points)][k] = point(-77, -7)
			}
		}
		clear(d.Series[:cap(d.Series)])
	}
}

// P1, rule 5: an answer that is written over changes no later one, and nothing of what was handed in.
func TestAnswersAreTheCallers(t *testing.T) {
	c := newChance(15)
	for range 2000 {
		q := c.question(false)
		s, w := loaded(t, q.d), wordsLoad(q.d)
		first := put(s, q)
		want := first.String()
		first.overwrite()
		if got := put(s, q).String(); got != want {
			t.Fatalf("%s, and after a change of the answers %s", want, got)
		}
		checkSeries(t, s, w)
		checkAsked(t, s, w, q.ms, q.name)
		checkWindow(t, s, w, q.i, math.MinInt64, math.MaxInt64)
	}
}

// A stretch of memory, from its first byte to behind its last.
type stretch struct{ from, to uintptr }

// memory: the stretches that things take up, spare room too, and the things themselves, so that nothing newer comes to lie there.
type memory struct {
	all  []stretch
	kept []any
}

func (m *memory) add(p unsafe.Pointer, size uintptr, thing any) {
	m.kept = append(m.kept, thing)
	if size > 0 {
		m.all = append(m.all, stretch{uintptr(p), uintptr(p) + size})
	}
}

func (m *memory) text(s string) { m.add(unsafe.Pointer(unsafe.StringData(s)), uintptr(len(s)), s) }

// addList: a list's memory, its spare room too.
func addList[T any](m *memory, list []T) {
	var x T
	m.add(unsafe.Pointer(unsafe.SliceData(list)), uintptr(cap(list))*unsafe.Sizeof(x), list)
}

func (m *memory) set(ls []api.Label) {
	addList(m, ls)
	for _, l := range ls {
		m.text(l.Name)
		m.text(l.Value)
	}
}

func (m *memory) data(d api.Dataset) {
	addList(m, d.Series)
	for _, s := range d.Series {
		m.set(s.Labels)
		addList(m, s.Points)
	}
}

func (m *memory) question(q question) {
	m.data(q.d)
	addList(m, q.ms)
	for _, x := range q.ms {
		m.text(x.Name)
		m.text(x.Value)
	}
	m.text(q.name)
}

func (m *memory) answer(r answer) {
	addList(m, r.numbers)
	m.set(r.set)
	addList(m, r.points)
	for _, list := range r.texts {
		addList(m, list)
		for _, s := range list {
			m.text(s)
		}
	}
	for _, d := range r.data {
		m.data(d)
	}
}

// shared: do two stretches share a byte?
func (m *memory) shared() bool {
	slices.SortFunc(m.all, func(a, b stretch) int { return cmp.Compare(a.from, b.from) })
	for i := 1; i < len(m.all); i++ {
		if m.all[i].from < m.all[i-1].to {
			return true
		}
	}
	return false
}

// P1, rule 5: no two of what is handed in and what is answered, now or to the same question again, share memory.
func TestNewMemory(t *testing.T) {
	c, stretches := newChance(16), 0
	for range 500 {
		var o overwritten
		var m memory
		q := o.question(c.question(false))
		s := loaded(t, q.d)
		m.question(q)
		m.answer(put(s, q))
		m.answer(put(s, q))
		if m.shared() {
			t.Fatalf("memory is shared in the answers to %+v", q)
		}
		stretches += len(m.all)
		runtime.KeepAlive(m.kept)
		runtime.KeepAlive(s)
	}
	if stretches < 20000 {
		t.Errorf("%d stretches", stretches)
	}
}

// P1, rule 5: series that share their lists in the dataset share none in what Restrict and Data make of it.
func TestNewMemoryOfShared(t *testing.T) {
	name := fmt.Sprint("up", 7)
	ls, points := set("__name__", name, "a", name, "b", name), run(4)
	d := data(series(ls, points...), series(ls[:2], points[1:]...), series(ls[1:], points...), series(ls[:1], points[:2]...))
	var m memory
	kept, e := store.Restrict(data(slices.Concat(d.Series, d.Series)...), []api.Matcher{match("a", 3, name+"|")})
	if e != 0 || len(kept.Series) != 8 {
		t.Fatalf("%+v, %d", kept, e)
	}
	m.data(kept)
	s := loaded(t, d)
	m.data(s.Data())
	m.data(s.Data())
	for range 2 {
		for i := range s.Len() {
			m.set(s.Labels(i))
			addList(&m, s.Window(i, -1, 9999))
		}
	}
	addList(&m, ls)
	m.text(name)
	addList(&m, points)
	if m.shared() {
		t.Error("memory is shared")
	}
	runtime.KeepAlive(m.kept)
}

// P1, rule 6, and P2: the same question has the same answer, whatever was asked between, of the same store or of a new one.
func TestSameAnswerAgain(t *testing.T) {
	c := newChance(17)
	var list []question
	var want []string
	for i := range 500 {
		list = append(list, c.question(i%2 == 0))
		want = append(want, ask(list[i]).String())
	}
	for range 3 {
		for i := len(list) - 1; i >= 0; i-- {
			if got := ask(list[i]).String(); got != want[i] {
				t.Fatalf("%s, and later %s", want[i], got)
			}
		}
	}
	s := loaded(t, c.dataset(60, 9))
	for i := range list {
		want[i] = put(s, list[i]).String()
	}
	for i := len(list) - 1; i >= 0; i-- {
		if got := put(s, list[i]).String(); got != want[i] {
			t.Fatalf("%s, and later %s", want[i], got)
		}
	}
}

// settled: how many goroutines there are, once those have ended that the runtime or an earlier test still had: at most n, unless one was left behind since there were n.
func settled(n int) int {
	now := runtime.NumGoroutine()
	for tries := 0; now > n && tries < 500; tries++ {
		time.Sleep(10 * time.Millisecond)
		now = runtime.NumGoroutine()
	}
	return now
}

// P1, rule 10: calls beside each other, over the same lists and the same store too, answer what they would have answered alone; and no call begins a goroutine that it leaves behind.
func TestBesideEachOther(t *testing.T) {
	c := newChance(18)
	var list []question
	var alone, want []string
	before := runtime.NumGoroutine()
	d := c.dataset(60, 9)
	one := loaded(t, d)
	for i := range 200 {
		list = append(list, c.question(i%2 == 0))
		want = append(want, ask(list[i]).String())
		alone = append(alone, put(one, list[i]).String())
	}
	if after := settled(before); after > before {
		t.Errorf("%d goroutines, and then %d", before, after)
	}
	fresh := loaded(t, d)
	var all sync.WaitGroup
	for g := range 8 {
		all.Go(func() {
			for i := range list {
				k := (i*(2*g+1) + g) % len(list)
				if got := put(fresh, list[k]).String(); got != alone[k] {
					t.Errorf("%s, and beside others %s", alone[k], got)
				}
				if got := ask(list[k]).String(); got != want[k] {
					t.Errorf("%s, and beside others %s", want[k], got)
				}
			}
		})
	}
	all.Wait()
}

// together runs calls, each in a goroutine of its own, that begin as nearly at one time as can be.
func together(calls ...func()) {
	var ready atomic.Int32
	var all sync.WaitGroup
	for _, call := range calls {
		all.Go(func() {
			for ready.Add(1); int(ready.Load()) < len(calls); {
				runtime.Gosched()
			}
			call()
		})
	}
	all.Wait()
}

// P1, rule 10: several goroutines ask for the points of one series at the same time, when nobody has asked for them yet: few points very often, and many.
func TestFirstAskedTogether(t *testing.T) {
	for _, c := range []struct{ points, rounds int }{{1, 200000}, {3, 50000}, {20000, 30}} {
		points := run(c.points)
		last := points[c.points-1]
		for range c.rounds {
			s := loaded(t, data(series(nil, points...)))
			at := func() {
				if p, ok := s.At(0, last.T); !ok || !like(p, last) {
					t.Errorf("At = %v, %v", p, ok)
				}
			}
			window := func() {
				if got := s.Window(0, -1, last.T); !slices.EqualFunc(got, points, like) {
					t.Errorf("Window: %d points", len(got))
				}
			}
			whole := func() {
				if got := s.Data(); len(got.Series) != 1 || !slices.EqualFunc(got.Series[0].Points, points, like) {
					t.Errorf("Data: %d series", len(got.Series))
				}
			}
			together(at, window, at, whole)
			if t.Failed() {
				return
			}
		}
	}
}
