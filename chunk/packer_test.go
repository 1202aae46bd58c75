package chunk_test

import (
	"bytes"
	"math"
	"slices"
	"testing"

	"weir/api"
	"weir/chunk"
)

// A slowPacker is a Packer by the chapter's words: it keeps the list.
type slowPacker struct{ list []api.Sample }

func (p *slowPacker) add(s api.Sample) api.Errno {
	switch n := len(p.list); {
	case n == 100000:
		return api.ErrLong
	case n > 0 && !(s.T > p.list[n-1].T):
		return api.ErrOrder
	}
	p.list = append(p.list, s)
	return 0
}

// holds: is what the packer tells what the slow one holds?
func (p *slowPacker) holds(t *testing.T, q *chunk.Packer) {
	t.Helper()
	want, _ := wordsPack(p.list)
	if b := q.Bytes(); q.Len() != len(p.list) || !bytes.Equal(b, want) {
		t.Fatalf("%d samples, %x; want %d, %x", q.Len(), b, len(p.list), want)
	}
}

// P17.4: the packer that holds nothing, a first sample, refused ones.
func TestPackerExamples(t *testing.T) {
	p := chunk.New()
	if p == nil || p.Len() != 0 || !bytes.Equal(p.Bytes(), []byte{0, 0, 0}) {
		t.Fatalf("a new packer: %v", p)
	}
	for i, c := range []struct {
		s api.Sample
		e api.Errno
	}{
		{at(math.MinInt64, 1), 0},
		{at(math.MinInt64, 2), api.ErrOrder},
		{gone(-7), 0},
		{at(-7, 1), api.ErrOrder},
		{gone(-8), api.ErrOrder},
		{at(-6, 1), 0},
		{at(math.MinInt64, 0), api.ErrOrder},
		{at(math.MaxInt64, math.NaN()), 0},
		{at(math.MaxInt64, 0), api.ErrOrder},
		{at(math.MinInt64, 0), api.ErrOrder},
		{at(0, 0), api.ErrOrder},
	} {
		if e := p.Add(c.s); e != c.e {
			t.Errorf("number %d: Add(%v) = %d", i, c.s, e)
		}
	}
	want := form(t, []api.Sample{at(math.MinInt64, 1), gone(-7), at(-6, 1), at(math.MaxInt64, math.NaN())})
	if p.Len() != 4 || !bytes.Equal(p.Bytes(), want) {
		t.Errorf("%d samples, %x", p.Len(), p.Bytes())
	}
}

// P17.4: a nil Packer refuses each sample and holds nothing.
func TestPackerNil(t *testing.T) {
	var none *chunk.Packer
	for range 3 {
		for _, s := range []api.Sample{{}, at(1, 1), gone(math.MaxInt64), at(math.MinInt64, math.NaN())} {
			if e := none.Add(s); e != api.ErrArg {
				t.Errorf("Add(%v) = %d", s, e)
			}
		}
		b := none.Bytes()
		if none.Len() != 0 || !bytes.Equal(b, []byte{0, 0, 0}) {
			t.Errorf("%d samples, %x", none.Len(), b)
		}
		b[0], b[2] = 1, 255
	}
}

// P17.4: the first sample may stand at any time, at 0 and below too.
func TestPackerFirstTime(t *testing.T) {
	for _, first := range []int64{math.MinInt64, -1, 0, 1, math.MaxInt64} {
		for _, stale := range []bool{false, true} {
			p, slow, s := chunk.New(), &slowPacker{}, api.Sample{T: first, Stale: stale}
			for range 2 {
				if e, want := p.Add(s), slow.add(s); e != want {
					t.Errorf("Add(%v) = %d; want %d", s, e, want)
				}
				slow.holds(t, p)
			}
		}
	}
}

// P17.4: several packers in turns, refused samples among the others, each answer step by step; Bytes that are written over.
func TestPackersInTurns(t *testing.T) {
	c, refused := newChance(10), 0
	for range 400 {
		packers := []*chunk.Packer{chunk.New(), chunk.New(), chunk.New(), nil}
		slow := make([]slowPacker, len(packers))
		for range 60 {
			k := c.dice.IntN(len(packers))
			for _, s := range c.list(3) {
				if n := len(slow[k].list); n > 0 && c.dice.IntN(3) > 0 {
					s.T = slow[k].list[n-1].T + c.dice.Int64N(500) - 30
				}
				if packers[k] == nil {
					if e := packers[k].Add(s); e != api.ErrArg {
						t.Fatalf("a nil packer's Add(%v) = %d", s, e)
					}
					continue
				}
				e := packers[k].Add(s)
				if want := slow[k].add(s); e != want {
					t.Fatalf("Add(%v) = %d; want %d", s, e, want)
				}
				if e != 0 {
					refused++
				}
			}
			b := packers[k].Bytes()
			for i := range b {
				b[i] ^= 0xFF
			}
			for i := range packers {
				slow[i].holds(t, packers[i])
			}
		}
	}
	if refused < 1000 {
		t.Errorf("%d are refused", refused)
	}
}

// P17.4: Bytes are Pack's after each sample, and asking for them changes nothing.
func TestPackerIsPack(t *testing.T) {
	c := newChance(11)
	lists := [][]api.Sample{run(300), wide(100)}
	for _, s := range someLists() {
		lists = append(lists, s)
	}
	for range 300 {
		lists = append(lists, c.list(40))
	}
	for _, s := range lists {
		asked, silent := chunk.New(), chunk.New()
		for i, x := range s {
			if asked.Add(x) != 0 || silent.Add(x) != 0 {
				t.Fatalf("Add of number %d of %v", i, short(s))
			}
			if b := asked.Bytes(); asked.Len() != i+1 || !bytes.Equal(b, form(t, s[:i+1])) {
				t.Fatalf("%d samples: %x", i+1, b)
			}
		}
		if silent.Len() != len(s) || !bytes.Equal(silent.Bytes(), form(t, s)) {
			t.Fatalf("%d samples: %x", len(s), silent.Bytes())
		}
	}
}

// P17.4: a packer with MaxSamples refuses more, ahead of times that don't rise, and stays as it is.
func TestPackerLong(t *testing.T) {
	for _, s := range [][]api.Sample{run(api.MaxSamples), wide(api.MaxSamples)} {
		p := chunk.New()
		for i, x := range s {
			if e := p.Add(x); e != 0 {
				t.Fatalf("Add of number %d: %d", i, e)
			}
		}
		want := form(t, s)
		last := s[len(s)-1].T
		for _, x := range []api.Sample{at(last+1, 1), at(last, 1), gone(math.MinInt64), gone(math.MaxInt64)} {
			if e := p.Add(x); e != api.ErrLong || p.Len() != api.MaxSamples || !bytes.Equal(p.Bytes(), want) {
				t.Errorf("Add(%v) = %d, %d samples", x, e, p.Len())
			}
		}
	}
}

// P17.4: a refused Add changes nothing: what follows is packed as if it had not been.
func TestPackerRefusedChangesNothing(t *testing.T) {
	c := newChance(12)
	for range 2000 {
		s := c.list(10)
		p := chunk.New()
		for i, x := range s {
			for range c.dice.IntN(3) {
				if i > 0 {
					wrong := at(s[i-1].T, c.value(1))
					wrong.Stale = c.dice.IntN(3) == 0
					if back := int64(c.dice.IntN(1000)); wrong.T >= math.MinInt64+back {
						wrong.T -= back
					}
					if e := p.Add(wrong); e != api.ErrOrder {
						t.Fatalf("Add(%v) behind %d = %d", wrong, s[i-1].T, e)
					}
				}
			}
			if e := p.Add(x); e != 0 {
				t.Fatalf("Add(%v) = %d", x, e)
			}
		}
		if !bytes.Equal(p.Bytes(), form(t, s)) {
			t.Fatalf("%v is packed as %x", s, p.Bytes())
		}
	}
}

// P17.4: Bytes are new memory at each call: earlier ones stay as they are while samples are added, and may be written over.
func TestPackerBytesAreNew(t *testing.T) {
	s := slices.Concat(run(40), wide(60)[41:])
	p := chunk.New()
	var told, want [][]byte
	for i, x := range s {
		if e := p.Add(x); e != 0 {
			t.Fatalf("Add of number %d: %d", i, e)
		}
		told, want = append(told, p.Bytes()), append(want, form(t, s[:i+1]))
	}
	for i := range told {
		if !bytes.Equal(told[i], want[i]) {
			t.Fatalf("the bytes of %d samples have become %x", i+1, told[i])
		}
		all := told[i][:cap(told[i])]
		for k := range all {
			all[k] ^= 0xA5
		}
		if !bytes.Equal(p.Bytes(), want[len(want)-1]) {
			t.Fatalf("the packer's bytes have become %x", p.Bytes())
		}
	}
}
