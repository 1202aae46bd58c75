package chunk_test

import (
	"math"
	"testing"

	"weir/api"
	"weir/chunk"
)

func wordsBetween(s []api.Sample, after, upto int64) []api.Sample {
	var found []api.Sample
	for _, x := range s {
		if x.T > after && !(x.T > upto) {
			found = append(found, x)
		}
	}
	return found
}

// bounds: the ends of int64, and what lies at, about and beyond the samples' times.
func bounds(s []api.Sample) []int64 {
	list := []int64{math.MinInt64, math.MinInt64 + 1, math.MaxInt64 - 1, math.MaxInt64, 0}
	for _, x := range s {
		list = append(list, x.T-1, x.T, x.T+1)
	}
	return list
}

// P17.1: Between takes times above after and up to upto, in either order of the two.
func TestBetweenExamples(t *testing.T) {
	b := form(t, []api.Sample{at(-5, 1), at(10, 2), gone(25), at(40, 4)})
	for _, c := range []struct {
		after, upto int64
		want        []api.Sample
	}{
		{-6, 40, []api.Sample{at(-5, 1), at(10, 2), gone(25), at(40, 4)}},
		{-5, 40, []api.Sample{at(10, 2), gone(25), at(40, 4)}},
		{-5, 39, []api.Sample{at(10, 2), gone(25)}},
		{10, 25, []api.Sample{gone(25)}},
		{9, 10, []api.Sample{at(10, 2)}},
		{10, 10, nil},
		{10, 9, nil},
		{40, -6, nil},
		{11, 24, nil},
		{40, math.MaxInt64, nil},
		{math.MinInt64, -6, nil},
		{math.MinInt64, math.MaxInt64, []api.Sample{at(-5, 1), at(10, 2), gone(25), at(40, 4)}},
		{math.MaxInt64, math.MinInt64, nil},
		{math.MaxInt64, math.MaxInt64, nil},
		{math.MinInt64, math.MinInt64, nil},
	} {
		if s, e := chunk.Between(b, c.after, c.upto); e != 0 || !alike(s, c.want) {
			t.Errorf("Between %d and %d: %v, %d", c.after, c.upto, s, e)
		}
	}
}

// P17.1: the first and the last time of all.
func TestBetweenAtTheEnds(t *testing.T) {
	b := form(t, []api.Sample{at(math.MinInt64, 1), at(math.MaxInt64, 2)})
	if s, e := chunk.Between(b, math.MinInt64, math.MaxInt64); e != 0 || !alike(s, []api.Sample{at(math.MaxInt64, 2)}) {
		t.Errorf("above the first time: %v, %d", s, e)
	}
	if s, e := chunk.Between(b, math.MinInt64, math.MaxInt64-1); e != 0 || len(s) != 0 {
		t.Errorf("between the ends: %v, %d", s, e)
	}
}

// P17.1: each two bounds of each list.
func TestBetweenWords(t *testing.T) {
	check := func(s []api.Sample) {
		t.Helper()
		b, back := form(t, s), wordsBack(s)
		for _, after := range bounds(s) {
			for _, upto := range bounds(s) {
				if got, e := chunk.Between(b, after, upto); e != 0 || !alike(got, wordsBetween(back, after, upto)) {
					t.Fatalf("Between %d and %d of %v: %v, %d", after, upto, s, got, e)
				}
			}
		}
	}
	for _, s := range someLists() {
		check(s[:min(len(s), 12)])
	}
	c := newChance(6)
	for range 500 {
		check(c.list(8))
	}
}

// P17.1: bytes that Unpack refuses are refused, whatever lies between the bounds.
func TestBetweenRefused(t *testing.T) {
	c, refused := newChance(7), 0
	for range 5000 {
		s := c.list(4)
		b := c.bytes(s, true)
		_, err := chunk.Unpack(b)
		if err == 0 {
			continue
		}
		refused++
		for _, upto := range bounds(s) {
			if got, e := chunk.Between(b, math.MinInt64, upto); e != api.ErrChunk || len(got) != 0 {
				t.Fatalf("Between of %x: %v, %d", b, got, e)
			}
		}
	}
	if refused < 1000 {
		t.Errorf("%d are refused", refused)
	}
}
