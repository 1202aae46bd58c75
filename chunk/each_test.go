package chunk_test

import (
	"iter"
	"math"
	"slices"
	"testing"

	"weir/api"
	"weir/chunk"
)

// taken: what a range gives that is left at its n-th sample.
func taken(seq iter.Seq[api.Sample], n int) []api.Sample {
	var got []api.Sample
	if n == 0 {
		return got
	}
	for x := range seq {
		got = append(got, x)
		if len(got) == n {
			break
		}
	}
	return got
}

// P17.5: an iterator left at each place and gone over again gives the samples from the first one on, with its bytes written over behind the call too.
func TestEachLeftEverywhere(t *testing.T) {
	check := func(s []api.Sample) {
		t.Helper()
		b, want := form(t, s), wordsBack(s)
		seq := chunk.Each(b)
		for i := range b {
			b[i] = byte(i * 7)
		}
		for n := 0; n <= len(s)+1; n++ {
			if got := taken(seq, n); !alike(got, want[:min(n, len(want))]) {
				t.Fatalf("left at %d: %v of %v", n, got, s)
			}
			if got := slices.Collect(seq); !alike(got, want) {
				t.Fatalf("gone over again behind %d: %v of %v", n, got, s)
			}
		}
	}
	for _, s := range someLists() {
		check(s)
	}
	c := newChance(8)
	for range 2000 {
		check(c.list(8))
	}
}

// P17.5: what is given hangs on b as it was at the call: whatever b becomes, between the call and the range, or in it.
func TestEachOfBytesThatChange(t *testing.T) {
	one, other := []api.Sample{at(1, 1), at(2, 2), at(3, 3)}, []api.Sample{at(7, 1), at(8, 2), at(9, 3)}
	b, b2 := form(t, one), form(t, other)
	if len(b) != len(b2) {
		t.Fatalf("forms of %d and %d bytes", len(b), len(b2))
	}
	seq := chunk.Each(b)
	copy(b, b2)
	if got := slices.Collect(seq); !alike(got, one) {
		t.Errorf("written over ahead of the range: %v", got)
	}
	if got := slices.Collect(chunk.Each(b)); !alike(got, other) {
		t.Errorf("a new call: %v", got)
	}
	var got []api.Sample
	for x := range chunk.Each(b2) {
		got = append(got, x)
		clear(b2)
	}
	if !alike(got, other) {
		t.Errorf("written over in the range: %v", got)
	}
	wrong := []byte{0, 0, 1}
	seq = chunk.Each(wrong)
	wrong[2] = 0
	if got := slices.Collect(seq); len(got) != 0 {
		t.Errorf("bytes that became a form: %v", got)
	}
}

// P17.5: over none, where Unpack refuses, even if only the last bits are wrong.
func TestEachRefused(t *testing.T) {
	c, refused := newChance(9), 0
	for range 5000 {
		b := c.bytes(c.list(5), true)
		if _, e := chunk.Unpack(b); e != 0 {
			refused++
			for x := range chunk.Each(b) {
				t.Fatalf("Each(%x) gives %v", b, x)
			}
		}
	}
	if refused < 1000 {
		t.Errorf("%d are refused", refused)
	}
}

// P17.5: ranges within each other, and iterators asked in turn, each on its own.
func TestEachInTurn(t *testing.T) {
	s := run(9)
	seq, other := chunk.Each(form(t, s)), chunk.Each(form(t, s[3:]))
	outer := 0
	for x := range seq {
		if inner := slices.Collect(seq); x != s[outer] || !alike(inner, s) {
			t.Fatalf("%v, and within it %v", x, inner)
		}
		outer++
	}
	first, stop := iter.Pull(seq)
	defer stop()
	second, stop := iter.Pull(seq)
	defer stop()
	third, stop := iter.Pull(other)
	defer stop()
	for i := range s {
		if x, ok := first(); !ok || x != s[i] {
			t.Errorf("the first iterator gives %v %v as number %d", x, ok, i)
		}
		if x, ok := second(); !ok || x != s[i] {
			t.Errorf("the second iterator gives %v %v as number %d", x, ok, i)
		}
		if x, ok := third(); ok != (i+3 < len(s)) || ok && x != s[i+3] {
			t.Errorf("the third iterator gives %v %v as number %d", x, ok, i)
		}
	}
}

// P17.5: what is given is a value: to change it changes nothing.
func TestEachGivesValues(t *testing.T) {
	s := run(5)
	seq := chunk.Each(form(t, s))
	for x := range seq {
		x.T, x.V, x.Stale = 0, math.NaN(), true
	}
	list := slices.Collect(seq)
	clear(list)
	if got := slices.Collect(seq); !alike(got, s) {
		t.Errorf("%v", got)
	}
}
