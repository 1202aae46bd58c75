package chunk_test

import (
	"bytes"
	"math"
	"slices"
	"strings"
	"testing"

	"weir/api"
	"weir/chunk"
)

// checkUnpack holds all calls that read against the words, and answers what is wrong with b by these.
func checkUnpack(t *testing.T, b []byte) string {
	t.Helper()
	want, wrong := wordsUnpack(b)
	err := api.OK
	if wrong != "" {
		err = api.ErrChunk
	}
	told := b[:min(len(b), 60)]
	s, e := chunk.Unpack(b)
	if e != err || !alike(s, want) {
		t.Fatalf("Unpack(%x) = %v, %d; want %v, %d (%s)", told, short(s), e, short(want), err, wrong)
	}
	if n, e := chunk.Count(b); e != err || n != len(want) {
		t.Fatalf("Count(%x) = %d, %d; want %d, %d (%s)", told, n, e, len(want), err, wrong)
	}
	if each := slices.Collect(chunk.Each(b)); !alike(each, want) {
		t.Fatalf("Each(%x) gives %v; want %v (%s)", told, short(each), short(want), wrong)
	}
	if l, e := chunk.Between(b, math.MinInt64, math.MaxInt64); e != err || !alike(l, wordsBetween(want, math.MinInt64, math.MaxInt64)) {
		t.Fatalf("Between(%x) = %v, %d; want %d (%s)", told, short(l), e, err, wrong)
	}
	return wrong
}

// P17.1: the chapter's examples: bytes that are no list's form, and those that are.
func TestUnpackExamples(t *testing.T) {
	for _, b := range [][]byte{nil, {}, {0, 0, 1}, {0, 0, 0, 0}, {0}, {0, 0}, {0, 0, 64}, {0, 0, 128}, {255, 255, 255}} {
		if s, e := chunk.Unpack(b); len(s) != 0 || e != api.ErrChunk {
			t.Errorf("Unpack(%d) = %v, %d", b, s, e)
		}
		checkUnpack(t, b)
	}
	for _, c := range []struct {
		b    []byte
		want []api.Sample
	}{
		{[]byte{0, 0, 0}, nil},
		{[]byte{0, 0, 128, 0, 0, 0, 0, 0, 0, 0, 0}, []api.Sample{at(0, 0)}},
		{[]byte{0, 0, 128, 0, 0, 0, 0, 0, 0, 0, 112}, []api.Sample{gone(0)}},
		{packed(row(inBits(1, 17), inBits(0, 64), "110 000010 001001 1111111111")), []api.Sample{at(0, 1)}},
		{packed(row(inBits(3, 17), inBits(1000, 64), "110 000010 001010 11111111111 1110 101111100111 0 0 0")), []api.Sample{at(1000, 1.5), at(2000, 1.5), at(3000, 1.5)}},
	} {
		if s, e := chunk.Unpack(c.b); e != 0 || !alike(s, c.want) {
			t.Errorf("Unpack(%d) = %v, %d", c.b, s, e)
		}
		checkUnpack(t, c.b)
	}
}

// P17.1: streams that are wrong in one thing alone, each beside one that is right, by what is wrong. Behind the number of samples a first time of 0 is meant.
func TestUnpackWrong(t *testing.T) {
	nan := "110 000001 111110"
	zeros, ones := strings.Repeat("0", 50), strings.Repeat("1", 62)
	for _, c := range []struct {
		n            int
		right, wrong string
		why          string
	}{
		{1, "0", "0 0000000", "bytes behind the end"}, // one bit beyond the byte
		{1, "0", "0 1", "a fill bit 1"},
		{1, "0", "0 000001", "a fill bit 1"},
		{1, "111", "111 1", "a fill bit 1"},
		{1, "110 000010 001001 1111111111", "110 000010 001001 111111111", "a frame too wide"}, // the last bit is missing, and a fill bit is taken for it
		{1, "110 000010 001001 1111111111", "110 000010 001001 111", "ends early"},
		{2, "111 10 1000000 111", "111 0 111", "times that don't rise"},
		{2, "111 10 1000000 111", "111 10 0111111 111", "a time too wide"},
		{2, "111 10 1000000 111", "111 10 0111110 111", "times that don't rise"},
		{2, "111 10 1000000 111", "111 110 100000000 111", "a time too wide"},
		{2, "111 10 1111111 111", "111 110" + inBits(64+255, 9) + "111", "a time too wide"},
		{2, "111 110" + inBits(65+255, 9) + "111", "111 1110" + inBits(65+2047, 12) + "111", "a time too wide"},
		{2, "111 110 111111111 111", "111 1110" + inBits(256+2047, 12) + "111", "a time too wide"},
		{2, "111 1110" + inBits(257+2047, 12) + "111", "111 1111" + inBits(257, 64) + "111", "a time too wide"},
		{2, "111 1110 111111111111 111", "111 1111" + inBits(2048, 64) + "111", "a time too wide"},
		{2, "111 1111" + inBits(2049, 64) + "111", "111 1111" + inBits(0, 64) + "111", "a time too wide"},
		{2, "111 1111" + inBits(math.MaxInt64, 64) + "111", "111 1111" + inBits(1<<63, 64) + "111", "times that don't rise"},
		{3, "111 10 1000000 111 0 111", "111 10 1000000 111 10 0111110 111", "times that don't rise"},
		{3, "111 10 1000000 111 0 111", "111 10 1000000 111 10 0111111 111", "a time too wide"},
		{1, "0", "10", "no frame"},
		{1, "0", "10 0", "no frame"},
		{1, "0", "10 1111111", "no frame"},
		{1, "110 111111 000000 1", "110 111111 000000 0", "a value that is the one ahead"},
		{1, "110 111111 000000 1", "110 111110 000001 01", "a frame too wide"},
		{1, "110 111110 000000 1", "110 111110 000001 10", "a frame too wide"},
		{1, "110 111110 000001 11", "110 111111 000001 1 0", "a frame beyond the end"},
		{1, "110 111110 000001 11", "110 111111 000001 11", "a frame beyond the end"},
		{1, "110 000001 000000 1", "110 000001 111111 0" + ones + "1", "a frame beyond the end"},
		{1, "110 111111 000000 1", "110 111111 111111" + ones + ones + "1111", "a frame beyond the end"},
		{1, "110 000000 111111 1" + strings.Repeat("0", 62) + "1", "110 000000 111111 0" + strings.Repeat("0", 62) + "1", "a frame too wide"},
		{2, "110 111111 000000 1 10 1000000 0", "110 111111 000000 1 10 1000000 10 0", "a value that is the one ahead"},
		{2, "110 111111 000000 1 10 1000000 10 1", "110 111111 000000 1 10 1000000 110 111111 000000 1", "a frame without need"},
		{2, "110 111110 000001 11 10 1000000 10 01", "110 111110 000001 11 10 1000000 110 111111 000000 1", "a frame without need"},
		{2, "110 111110 000001 11 10 1000000 10 10", "110 111110 000001 11 10 1000000 110 111110 000000 1", "a frame without need"},
		{2, "110 111110 000000 1 10 1000000 110 111111 000000 1", "110 111110 000000 1 10 1000000 110 111110 000001 01", "a frame too wide"},
		{2, "110 111110 000000 1 10 1000000 110 111101 000000 1", "110 111110 000000 1 10 1000000 110 111101 000001 10", "a frame too wide"},
		{1, nan + "111111111111" + zeros + "1", nan + "111111111111" + strings.Repeat("0", 49) + "11", "another NaN"},
		{1, nan + "111111111111" + zeros + "1", nan + "111111111110" + zeros + "1", "another NaN"},
		{1, nan + "111111111111" + zeros + "1", "110 000001 001011 111111111111", "another NaN"},
		{1, nan + "111111111111" + zeros + "1", "110 000000 111111 1111111111111" + zeros + "1", "another NaN"},
		{1, nan + "111111111111" + zeros + "1", nan + ones + "1", "another NaN"},
		{2, "110 000001 001010 11111111111 10 1000000 0", "110 000001 001010 11111111111 10 1000000 110 001100 000000 1", "another NaN"},
	} {
		head := inBits(uint64(c.n), 17) + inBits(0, 64)
		if why := checkUnpack(t, packed(row(head, c.right))); why != "" {
			t.Errorf("%s is wrong: %s", c.right, why)
		}
		if why := checkUnpack(t, packed(row(head, c.wrong))); why != c.why {
			t.Errorf("%s is wrong: %s, not %s", c.wrong, why, c.why)
		}
	}
}

// P17.1: a form with a byte more, of whatever bits, one less, or a fill bit that is 1.
func TestUnpackEnds(t *testing.T) {
	for name, s := range someLists() {
		b := form(t, s)
		if why := checkUnpack(t, b); why != "" {
			t.Errorf("%s: %s", name, why)
		}
		for _, more := range [][]byte{{0}, {1}, {128}, {255}, {0, 0}, {0, 0, 0, 0, 0, 0, 0, 0}, b} {
			if why := checkUnpack(t, append(slices.Clone(b), more...)); why != "bytes behind the end" {
				t.Errorf("%s, with %x behind it: %q", name, more, why)
			}
		}
		for n := range b {
			if why := checkUnpack(t, b[:n]); why == "" {
				t.Errorf("%s, cut to %d bytes", name, n)
			}
		}
		for fill := len(wordsStream(s)); fill < 8*len(b); fill++ {
			wrong := slices.Clone(b)
			wrong[fill/8] |= 1 << (7 - fill%8)
			if why := checkUnpack(t, wrong); why != "a fill bit 1" {
				t.Errorf("%s, with bit %d set: %q", name, fill, why)
			}
		}
	}
}

// P17.1: each bit of a form turned, and each two of them: some of it is another list's form.
func TestUnpackNear(t *testing.T) {
	found := map[string]int{}
	for _, s := range someLists() {
		b := form(t, s)
		all := min(8*len(b), 400)
		for i := range all {
			b[i/8] ^= 1 << (i % 8)
			found[checkUnpack(t, b)]++
			for j := i + 1; j < all && len(b) < 30; j++ {
				b[j/8] ^= 1 << (j % 8)
				found[checkUnpack(t, b)]++
				b[j/8] ^= 1 << (j % 8)
			}
			b[i/8] ^= 1 << (i % 8)
		}
	}
	for _, why := range []string{"", "ends early", "bytes behind the end", "a fill bit 1", "times that don't rise", "a time too wide", "no frame", "a frame too wide"} {
		if found[why] == 0 {
			t.Errorf("none is wrong by %q: %v", why, found)
		}
	}
}

// P17.1: all bytes of at most two, and of three those about each edge of the number of samples: but for three noughts none is a form.
func TestUnpackAllShort(t *testing.T) {
	checkUnpack(t, nil)
	for a := range 256 {
		checkUnpack(t, []byte{byte(a)})
		for b := range 256 {
			checkUnpack(t, []byte{byte(a), byte(b)})
			checkUnpack(t, []byte{0, byte(a), byte(b)})
			checkUnpack(t, []byte{byte(a), byte(b), 128})
		}
	}
}

// P17.1: one to four samples, a first time at an edge, and all bits behind it, up to 15 of them.
func TestUnpackAllBits(t *testing.T) {
	ok := 0
	for n := 1; n <= 4; n++ {
		for _, first := range []int64{0, math.MaxInt64 - 1, math.MinInt64} {
			head := inBits(uint64(n), 17) + inBits(uint64(first), 64)
			for bits := range uint64(1 << 15) {
				b := packed(head + inBits(bits, 15))
				if bits < 1<<7 {
					checkUnpack(t, packed(head+inBits(bits, 7)))
				}
				if checkUnpack(t, b) == "" {
					ok++
				}
			}
		}
	}
	if ok < 100 {
		t.Errorf("%d are forms", ok)
	}
}

// P17.1, P17.3: what is nearly a form, of very many lists, and wrong by each of the rules.
func TestUnpackSlips(t *testing.T) {
	c, found := newChance(2), map[string]int{}
	for range 60000 {
		found[checkUnpack(t, c.bytes(c.list(6), true))]++
	}
	for range 200 {
		found[checkUnpack(t, c.bytes(c.list(300), true))]++
	}
	for _, why := range []string{"", "ends early", "bytes behind the end", "a fill bit 1", "times that don't rise", "a time too wide", "no frame", "a value that is the one ahead", "a frame beyond the end", "a frame too wide", "a frame without need", "another NaN"} {
		if found[why] < 20 {
			t.Errorf("%d are wrong by %q: %v", found[why], why, found)
		}
	}
	for i := range 20000 {
		s := c.list(8)
		if b := c.bytes(s, false); !bytes.Equal(b, form(t, s)) {
			t.Fatalf("number %d: %x isn't the form of %v", i, b, s)
		}
	}
}

// P17.2: there and back.
func TestThereAndBack(t *testing.T) {
	back := func(s []api.Sample) {
		t.Helper()
		got, e := chunk.Unpack(form(t, s))
		if e != 0 || !alike(got, wordsBack(s)) {
			t.Fatalf("%v comes back as %v, %d", short(s), short(got), e)
		}
		for _, x := range got {
			if x.Stale && (x.V != 0 || math.Signbit(x.V)) {
				t.Fatalf("a stale sample comes back with %v", x.V)
			}
		}
	}
	for _, s := range someLists() {
		back(s)
	}
	c := newChance(3)
	for range 40000 {
		back(c.list(12))
	}
	for range 100 {
		back(c.list(2000))
	}
}

// P17.3: one form: what is taken is what Pack makes of the answer.
func TestOneForm(t *testing.T) {
	c, taken := newChance(4), 0
	for i := range 60000 {
		b := c.bytes(c.list(5), i%4 > 0)
		s, e := chunk.Unpack(b)
		if e != 0 {
			continue
		}
		taken++
		if again := form(t, s); !bytes.Equal(again, b) {
			t.Fatalf("%x is taken as %v, whose form is %x", b, s, again)
		}
	}
	if taken < 10000 || taken > 55000 {
		t.Errorf("%d are taken", taken)
	}
}

// P17.2, P17.3: no two lists have one form, and no form is that of two lists.
func TestFormsDiffer(t *testing.T) {
	c := newChance(5)
	lists := map[string][]api.Sample{}
	for range 30000 {
		s := wordsBack(c.list(3))
		b := string(form(t, s))
		if other, ok := lists[b]; ok && !alike(s, other) {
			t.Fatalf("%v and %v have one form", s, other)
		}
		lists[b] = s
	}
}

// wide: MaxSamples samples and some more, each in the widest ways.
func wide(n int) []api.Sample {
	var s []api.Sample
	for i := range n {
		s = append(s, at(int64(i)*100000+int64(i%2)*50000, bitsAs(uint64(i%2)<<63|uint64(i)|1)))
	}
	return s
}

// P17.1, P17.2: MaxSamples samples, and a stream of one more, which is right but for that.
func TestUnpackLong(t *testing.T) {
	for _, s := range [][]api.Sample{run(api.MaxSamples + 1), wide(api.MaxSamples + 1)} {
		if why := checkUnpack(t, form(t, s[:api.MaxSamples])); why != "" {
			t.Errorf("MaxSamples: %s", why)
		}
		if why := checkUnpack(t, packed(wordsStream(s))); why != "too many samples" {
			t.Errorf("one more than MaxSamples: %s", why)
		}
		b := form(t, s[:api.MaxSamples])
		for _, n := range []uint64{0, 1, api.MaxSamples - 1, api.MaxSamples + 1, 1<<17 - 1} {
			if why := checkUnpack(t, packed(inBits(n, 17)+bitsOf(b)[17:])); why == "" {
				t.Errorf("MaxSamples samples, told as %d, are taken", n)
			}
		}
	}
}
