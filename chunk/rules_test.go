package chunk_test

import (
	"bytes"
	"cmp"
	"fmt"
	"math"
	"runtime"
	"slices"
	"sync"
	"testing"
	"time"
	"unsafe"

	"weir/api"
	"weir/chunk"
)

// quick: the time that a call takes must be no more than one that goes through what it is given once, or nearly so, could take on a slow machine.
func quick(t *testing.T, what string, call func()) {
	t.Helper()
	begin := time.Now()
	call()
	if took := time.Since(begin); took > 20*time.Second {
		t.Errorf("%s: %s", what, took)
	}
}

// P1, rule 1: very many bytes and samples come to an end, right or wrong.
func TestGreatest(t *testing.T) {
	for _, fill := range []byte{0, 255, 0x55, 0x10, 0x80, 0xB6} {
		b := bytes.Repeat([]byte{fill}, 1<<25)
		for _, n := range []uint64{0, 1, 2, api.MaxSamples, api.MaxSamples + 1, 1<<17 - 1} {
			b[0], b[1], b[2] = byte(n>>9), byte(n>>1), byte(n<<7)
			quick(t, "Unpack of very many bytes", func() {
				if s, e := chunk.Unpack(b); len(s) != 0 || e != api.ErrChunk {
					t.Errorf("%d samples, %d", len(s), e)
				}
			})
		}
	}
	long := make([]api.Sample, 1<<24)
	quick(t, "Pack of very many samples", func() {
		if b, e := chunk.Pack(long); len(b) != 0 || e != api.ErrLong {
			t.Errorf("%d bytes, %d", len(b), e)
		}
	})
	s := wide(api.MaxSamples)
	quick(t, "all calls over MaxSamples", func() {
		b := form(t, s)
		n, _ := chunk.Count(b)
		l, _ := chunk.Between(b, s[10].T, s[20].T)
		if n != api.MaxSamples || !alike(l, s[11:21]) || !alike(slices.Collect(chunk.Each(b)), s) {
			t.Errorf("%d samples, between two times %v", n, l)
		}
	})
}

// P1, rule 1: few bytes that tell of very many samples don't make room for these.
func TestLittleRoom(t *testing.T) {
	b := packed(inBits(api.MaxSamples, 17) + inBits(0, 64))
	var before, after runtime.MemStats
	runtime.ReadMemStats(&before)
	for range 1000 {
		chunk.Unpack(b)
	}
	runtime.ReadMemStats(&after)
	if room := after.TotalAlloc - before.TotalAlloc; room > 1<<20 {
		t.Errorf("%d bytes a call", room/1000)
	}
}

// P1, rule 1: no bytes make a call panic or go on, and each one answers by its words.
func TestTotal(t *testing.T) {
	c := newChance(15)
	for range 60000 {
		b := make([]byte, c.dice.IntN(60))
		for i := range b {
			b[i] = byte(c.dice.Uint64() & c.dice.Uint64())
			if c.dice.IntN(2) == 0 {
				b[i] = byte(c.dice.Uint64() | c.dice.Uint64())
			}
		}
		if len(b) >= 3 && c.dice.IntN(8) > 0 { // few samples, of which some can be read
			b[0], b[1] = 0, byte(c.dice.IntN(4))
		}
		checkUnpack(t, b)
	}
}

// P1, rule 1: samples of any sort, in any order, to Pack and to packers.
func TestTotalSamples(t *testing.T) {
	c := newChance(16)
	for range 20000 {
		var s []api.Sample
		p := chunk.New()
		for range c.dice.IntN(6) {
			x := api.Sample{T: c.begin(), V: c.value(1), Stale: c.dice.IntN(3) == 0}
			s = append(s, x)
			p.Add(x)
		}
		checkPack(t, s)
		if n, e := chunk.Count(p.Bytes()); e != 0 || n != p.Len() {
			t.Fatalf("a packer of %d samples: %d, %d", p.Len(), n, e)
		}
	}
}

// P1, rules 3 and 4: beside an error there is nothing; an empty list is as good as nil.
func TestNothing(t *testing.T) {
	for _, b := range [][]byte{nil, {}, bytes.Repeat([]byte{1}, 3)[:0]} {
		s, e := chunk.Unpack(b)
		n, e1 := chunk.Count(b)
		l, e2 := chunk.Between(b, math.MinInt64, math.MaxInt64)
		if len(s) != 0 || n != 0 || len(l) != 0 || e != api.ErrChunk || e1 != e || e2 != e || len(slices.Collect(chunk.Each(b))) != 0 {
			t.Errorf("of %v: %v %d, %d %d, %v %d", b, s, e, n, e1, l, e2)
		}
	}
	for _, s := range [][]api.Sample{nil, {}, run(3)[:0]} {
		if b, e := chunk.Pack(s); e != 0 || !bytes.Equal(b, []byte{0, 0, 0}) {
			t.Errorf("Pack(%v) = %x, %d", s, b, e)
		}
	}
	b := append(form(t, run(5)), 0)
	n, e := chunk.Count(b)
	l, e1 := chunk.Between(b, -1, 3000)
	if n != 0 || e != api.ErrChunk || len(l) != 0 || e1 != e {
		t.Errorf("of refused bytes: %d %d, %v %d", n, e, l, e1)
	}
}

// A question is all that the calls may be given.
type question struct {
	s           []api.Sample
	b           []byte
	after, upto int64
}

// An answer is all that they answer to it.
type answer struct {
	form, held  []byte
	back, found []api.Sample
	each        []api.Sample
	plain       string // what isn't memory
}

func ask(q question) answer {
	var r answer
	var e1, e2, e3, e4 api.Errno
	var n int
	r.form, e1 = chunk.Pack(q.s)
	r.back, e2 = chunk.Unpack(q.b)
	r.found, e3 = chunk.Between(q.b, q.after, q.upto)
	n, e4 = chunk.Count(q.b)
	r.each = slices.Collect(chunk.Each(q.b))
	p, errs := chunk.New(), []api.Errno{}
	for _, x := range q.s {
		errs = append(errs, p.Add(x))
	}
	r.held = p.Bytes()
	r.plain = fmt.Sprint(e1, e2, e3, n, e4, errs, p.Len())
	return r
}

func (r answer) String() string {
	return fmt.Sprint(r.form, r.held, r.back, r.found, r.each, r.plain)
}

func (c chance) question(slips bool) question {
	q := question{s: c.list(6), after: c.begin(), upto: c.begin()}
	q.b = c.bytes(c.list(6), slips && c.dice.IntN(2) == 0)
	if slips && len(q.s) > 0 && c.dice.IntN(3) == 0 {
		q.s[c.dice.IntN(len(q.s))].T = c.begin()
	}
	return q
}

// marked: a list with spare room in which marks lie.
func marked[T any](list []T, mark T) []T {
	made := append(slices.Clone(list), mark, mark)
	return made[:len(list)]
}

func (q question) room() string { return fmt.Sprint(q.s[:cap(q.s)], q.b[:cap(q.b)]) }

// P1, rule 5: what is handed in stays as it is, its spare room too, and what that room holds counts for nothing.
func TestGivenStays(t *testing.T) {
	c := newChance(17)
	for i := range 5000 {
		q := c.question(i%2 == 0)
		want := ask(q).String()
		q.s, q.b = marked(q.s, at(99, 99)), marked(q.b, 0xA5)
		before := q.room()
		if got := ask(q).String(); got != want {
			t.Fatalf("%s, and with marks behind the lists %s", want, got)
		}
		if after := q.room(); after != before {
			t.Fatalf("%s is left of %s", after, before)
		}
	}
}

// P1, rule 5: what is answered, and what a packer holds, doesn't change with what was handed in.
func TestAnswersOutliveGiven(t *testing.T) {
	c := newChance(18)
	for i := range 5000 {
		q := c.question(i%2 == 0)
		want := ask(q).String()
		got := ask(q)
		p := chunk.New()
		for k := range q.s {
			p.Add(q.s[k])
			q.s[k] = at(-1, -1)
		}
		clear(q.b)
		if got.String() != want || !bytes.Equal(p.Bytes(), got.held) {
			t.Fatalf("%s, and after a change of what was given %s, %x", want, got, p.Bytes())
		}
	}
}

// A stretch of memory, from its first byte to behind its last.
type stretch struct{ from, to uintptr }

// stretchOf: the memory of a list, its spare room too.
func stretchOf[T any](list []T) stretch {
	var x T
	from := uintptr(unsafe.Pointer(unsafe.SliceData(list)))
	return stretch{from, from + uintptr(cap(list))*unsafe.Sizeof(x)}
}

func (q question) memory() []stretch { return []stretch{stretchOf(q.s), stretchOf(q.b)} }

func (r answer) memory() []stretch {
	return []stretch{stretchOf(r.form), stretchOf(r.held), stretchOf(r.back), stretchOf(r.found)}
}

// shared: do two stretches share a byte?
func shared(all []stretch) bool {
	all = slices.DeleteFunc(all, func(s stretch) bool { return s.from == s.to })
	slices.SortFunc(all, func(a, b stretch) int { return cmp.Compare(a.from, b.from) })
	for i := 1; i < len(all); i++ {
		if all[i].from < all[i-1].to {
			return true
		}
	}
	return false
}

// P1, rule 5: no two of what is handed in and what is answered, now or to the same question again, or by one packer again, share memory.
func TestNewMemory(t *testing.T) {
	c := newChance(19)
	for range 2000 {
		q := c.question(false)
		one, two := ask(q), ask(q)
		p := chunk.New()
		told := [][]byte{p.Bytes(), p.Bytes()}
		for _, x := range q.s {
			p.Add(x)
			told = append(told, p.Bytes(), p.Bytes())
		}
		all := slices.Concat(q.memory(), one.memory(), two.memory())
		for _, b := range told {
			all = append(all, stretchOf(b))
		}
		if shared(all) {
			t.Fatalf("memory is shared in the answers to %+v", q)
		}
		runtime.KeepAlive([]any{q, one, two, told})
	}
}

// P1, rule 5: an answer that is written over, its spare room too, changes no later one.
func TestAnswersAreApart(t *testing.T) {
	c := newChance(20)
	for i := range 3000 {
		q := c.question(i%2 == 0)
		r := ask(q)
		want := r.String()
		for _, list := range [][]byte{r.form, r.held} {
			list = list[:cap(list)]
			for k := range list {
				list[k] = 0x5A
			}
		}
		for _, list := range [][]api.Sample{r.back, r.found} {
			list = list[:cap(list)]
			for k := range list {
				list[k] = at(7, 7)
			}
		}
		if got := ask(q).String(); got != want {
			t.Fatalf("%s, and later %s", want, got)
		}
	}
}

// P1, rule 6, and P2: the same question has the same answer, whatever was asked between.
func TestSameAnswerAgain(t *testing.T) {
	c := newChance(21)
	var list []question
	var want []string
	for i := range 1000 {
		list = append(list, c.question(i%2 == 0))
		want = append(want, ask(list[i]).String())
	}
	for i := len(list) - 1; i >= 0; i-- {
		if got := ask(list[i]).String(); got != want[i] {
			t.Fatalf("%s, and later %s", want[i], got)
		}
	}
}

// settled: how many goroutines there are, once those have ended that the runtime or an earlier test still had: at most n, unless one was left behind since there were n.
func settled(n int) int {
	now := runtime.NumGoroutine()
	for tries := 0; now > n && tries < 500; tries++ {
		time.Sleep(10 * time.Millisecond)
		now = runtime.NumGoroutine()
	}
	return now
}

// P1, rule 10: calls beside each other, over the same lists too, and one iterator gone over by several, answer what they would have answered alone; and no call begins a goroutine.
func TestBesideEachOther(t *testing.T) {
	c := newChance(22)
	var list []question
	var want []string
	before := runtime.NumGoroutine()
	for i := range 200 {
		list = append(list, c.question(i%2 == 0))
		want = append(want, ask(list[i]).String())
	}
	if after := settled(before); after > before {
		t.Errorf("%d goroutines, and then %d", before, after)
	}
	s := run(50)
	seq := chunk.Each(form(t, s))
	var all sync.WaitGroup
	for g := range 8 {
		all.Go(func() {
			for i := range list {
				k := (i*(2*g+1) + g) % len(list)
				if got := ask(list[k]).String(); got != want[k] {
					t.Errorf("%s, and beside others %s", want[k], got)
				}
				if !alike(slices.Collect(seq), s) {
					t.Error("an iterator gone over by several")
				}
			}
		})
	}
	all.Wait()
}
