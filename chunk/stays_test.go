package chunk_test

import (
	"strings"
	"testing"

	"weir/api"
	"weir/chunk"
)

// checkStays: behind the first 17 bits the form of each list's beginning, fill bits left out, is the beginning of the one with a sample more.
func checkStays(t *testing.T, s []api.Sample) {
	t.Helper()
	ahead, stream := bitsOf(form(t, nil)), 17
	p := chunk.New()
	for i, x := range s {
		p.Add(x)
		now := bitsOf(p.Bytes())
		if now != bitsOf(form(t, s[:i+1])) {
			t.Fatalf("the packer's form of %d samples of %v: %s", i+1, short(s), now)
		}
		if !strings.HasPrefix(now[17:], ahead[17:stream]) {
			t.Fatalf("%d samples: %s, and with one more %s", i, ahead[17:stream], now[17:])
		}
		if strings.Contains(ahead[stream:], "1") || len(ahead)-stream > 7 {
			t.Fatalf("%d samples: %s behind the stream", i, ahead[stream:])
		}
		ahead, stream = now, len(wordsStream(s[:i+1]))
	}
}

// P17.6: what was packed stays, sample by sample.
func TestStays(t *testing.T) {
	for _, s := range someLists() {
		checkStays(t, s)
	}
	checkStays(t, run(200))
	checkStays(t, wide(100))
	c := newChance(13)
	for range 1500 {
		checkStays(t, c.list(12))
	}
}

// P17.6: a list and two that go on from it in different ways: both begin with it.
func TestStaysWhateverFollows(t *testing.T) {
	c := newChance(14)
	for range 3000 {
		s := c.list(6)
		if len(s) == 0 || s[len(s)-1].T > 1<<60 {
			continue
		}
		begun := bitsOf(form(t, s))[17:len(wordsStream(s))]
		last := s[len(s)-1]
		for _, v := range values()[:12] {
			for _, step := range []int64{1, 64, 300, 1 << 40} {
				more := append(s[:len(s):len(s)], api.Sample{T: last.T + step, V: v, Stale: c.dice.IntN(9) == 0})
				if now := bitsOf(form(t, more))[17:]; !strings.HasPrefix(now, begun) {
					t.Fatalf("%v: %s, and with %v behind it %s", s, begun, more[len(s)], now)
				}
			}
		}
	}
}
