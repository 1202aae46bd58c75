package chunk_test

import (
	"fmt"
	"math"
	"math/big"
	"strings"

	"weir/api"
)

// The chapter's words, written down a second time and in another way, to hold the package against: a stream is a text of the letters 0 and 1, times are whole numbers without bounds, and bytes are refused where a rule for reading them is broken.

const oneNaN = 0x7FF8000000000001

// inBits: a number in n bits.
func inBits(v uint64, n int) string { return fmt.Sprintf("%0*b", n, v) }

// wordsBits: the 64 bits of a value.
func wordsBits(v float64) uint64 {
	if v != v {
		return oneNaN
	}
	return math.Float64bits(v)
}

// around: a whole number modulo 2^64, as a signed number of 64 bits.
func around(n *big.Int) *big.Int {
	all := new(big.Int).Lsh(big.NewInt(1), 64)
	half := new(big.Int).Lsh(big.NewInt(1), 63)
	n = new(big.Int).Mod(n, all)
	if n.Cmp(half) >= 0 {
		n.Sub(n, all)
	}
	return n
}

// wordsD: the d of sample number i; of the first one 0.
func wordsD(s []api.Sample, i int) *big.Int {
	if i == 0 {
		return new(big.Int)
	}
	return new(big.Int).Sub(big.NewInt(s[i].T), big.NewInt(s[i-1].T))
}

// wordsE: the e of sample number i, which isn't the first.
func wordsE(s []api.Sample, i int) int64 {
	return around(new(big.Int).Sub(wordsD(s, i), wordsD(s, i-1))).Int64()
}

// changeWays: all ways in which e can be written, the widest last.
func changeWays(e int64) []string {
	var ways []string
	if e == 0 {
		ways = append(ways, "0")
	}
	if -63 <= e && e <= 64 {
		ways = append(ways, "10"+inBits(uint64(e+63), 7))
	}
	if -255 <= e && e <= 256 {
		ways = append(ways, "110"+inBits(uint64(e+255), 9))
	}
	if -2047 <= e && e <= 2048 {
		ways = append(ways, "1110"+inBits(uint64(e+2047), 12))
	}
	return append(ways, "1111"+inBits(uint64(e), 64))
}

func wordsTime(s []api.Sample, i int) string {
	if i == 0 {
		return inBits(uint64(s[0].T), 64)
	}
	return changeWays(wordsE(s, i))[0]
}

// A bitFrame is a frame: how many bits it leaves away ahead and behind.
type bitFrame struct {
	set  bool
	l, r int
}

// edges: how many bits 0 stand ahead of the first and behind the last bit 1 of x, which isn't 0.
func edges(x uint64) (l, r int) {
	text := inBits(x, 64)
	return strings.IndexByte(text, '1'), 63 - strings.LastIndexByte(text, '1')
}

// does: would the frame do for x, which isn't 0?
func (f bitFrame) does(x uint64) bool {
	l, r := edges(x)
	return f.set && f.l <= l && f.r <= r
}

func (f bitFrame) cut(x uint64) string { return inBits(x, 64)[f.l : 64-f.r] }

// told: the bits that set the frame and write x by it.
func (f bitFrame) told(x uint64) string {
	return "110" + inBits(uint64(f.l), 6) + inBits(uint64(64-f.l-f.r-1), 6) + f.cut(x)
}

// wordsValues goes over the values' bits of a list.
type wordsValues struct {
	ahead uint64
	frame bitFrame
}

func (w *wordsValues) next(s api.Sample) string {
	if s.Stale {
		return "111"
	}
	x := wordsBits(s.V) ^ w.ahead
	w.ahead = wordsBits(s.V)
	if x == 0 {
		return "0"
	}
	if w.frame.does(x) {
		return "10" + w.frame.cut(x)
	}
	l, r := edges(x)
	w.frame = bitFrame{true, l, r}
	return w.frame.told(x)
}

// wordsStream: the stream of a list that has a form, without fill bits.
func wordsStream(s []api.Sample) string {
	var b strings.Builder
	var values wordsValues
	b.WriteString(inBits(uint64(len(s)), 17))
	for i := range s {
		b.WriteString(wordsTime(s, i))
		b.WriteString(values.next(s[i]))
	}
	return b.String()
}

// packed: the bytes of a stream, with fill bits 0.
func packed(stream string) []byte {
	for len(stream)%8 != 0 {
		stream += "0"
	}
	b := make([]byte, len(stream)/8)
	for i, bit := range []byte(stream) {
		b[i/8] |= (bit - '0') << (7 - i%8)
	}
	return b
}

// bitsOf: bytes as a text of bits.
func bitsOf(b []byte) string {
	var text strings.Builder
	for _, x := range b {
		text.WriteString(inBits(uint64(x), 8))
	}
	return text.String()
}

func wordsPack(s []api.Sample) ([]byte, api.Errno) {
	if len(s) > 100000 {
		return nil, api.ErrLong
	}
	for i := range s {
		if i > 0 && s[i].T <= s[i-1].T {
			return nil, api.ErrOrder
		}
	}
	return packed(wordsStream(s)), 0
}

// A bitReader reads a stream and notes what is wrong with it; once something is, it gives noughts.
type bitReader struct {
	bits  string
	wrong string
}

func (r *bitReader) fault(what string) {
	if r.wrong == "" {
		r.wrong = what
	}
	r.bits = ""
}

func (r *bitReader) take(n int) uint64 {
	if len(r.bits) < n {
		r.fault("ends early")
		return 0
	}
	v := uint64(0)
	for _, bit := range []byte(r.bits[:n]) {
		v = 2*v + uint64(bit-'0')
	}
	r.bits = r.bits[n:]
	return v
}

// ones: how many bits 1 stand ahead, up to most; the bit 0 behind fewer is taken too.
func (r *bitReader) ones(most int) int {
	for n := range most {
		if r.take(1) == 0 {
			return n
		}
	}
	return most
}

// e: a change of steps that is written in the narrowest way.
func (r *bitReader) e() int64 {
	var e int64
	ways := r.ones(4)
	switch ways {
	case 0:
		return 0
	case 1:
		e = int64(r.take(7)) - 63
	case 2:
		e = int64(r.take(9)) - 255
	case 3:
		e = int64(r.take(12)) - 2047
	case 4:
		e = int64(r.take(64))
	}
	switch {
	case ways >= 1 && e == 0, ways >= 2 && -63 <= e && e <= 64, ways >= 3 && -255 <= e && e <= 256, ways >= 4 && -2047 <= e && e <= 2048:
		r.fault("a time too wide")
	}
	return e
}

// x: a difference of values, and the frame behind it; and whether the sample is stale.
func (r *bitReader) x(f bitFrame) (uint64, bitFrame, bool) {
	switch r.ones(3) {
	case 1:
		if !f.set {
			r.fault("no frame")
			return 0, f, false
		}
		x := r.take(64-f.l-f.r) << f.r
		if x == 0 {
			r.fault("a value that is the one ahead")
		}
		return x, f, false
	case 2:
		x, made := r.framed(f)
		return x, made, false
	case 3:
		return 0, f, true
	}
	return 0, f, false
}

// framed: a frame that must be set anew, and what is written by it.
func (r *bitReader) framed(f bitFrame) (uint64, bitFrame) {
	l, width := int(r.take(6)), int(r.take(6))+1
	if l+width > 64 {
		r.fault("a frame beyond the end")
		return 0, f
	}
	made := bitFrame{true, l, 64 - l - width}
	x := r.take(width) << made.r
	if x == 0 {
		r.fault("a value that is the one ahead")
		return 0, made
	}
	if left, right := edges(x); left != made.l || right != made.r {
		r.fault("a frame too wide")
	}
	if f.does(x) {
		r.fault("a frame without need")
	}
	return x, made
}

// wordsUnpack: the samples whose form b is, or what is wrong with it.
func wordsUnpack(b []byte) ([]api.Sample, string) {
	r := &bitReader{bits: bitsOf(b)}
	n := int(r.take(17))
	if n > 100000 {
		return nil, "too many samples"
	}
	var s []api.Sample
	var t, d int64
	var value uint64
	var frame bitFrame
	for i := 0; i < n && r.wrong == ""; i++ {
		ahead := t
		if i == 0 {
			t = int64(r.take(64))
		} else {
			d += r.e()
			t += d
		}
		if i > 0 && t <= ahead {
			r.fault("times that don't rise")
		}
		x, made, stale := r.x(frame)
		value, frame = value^x, made
		if math.IsNaN(math.Float64frombits(value)) && value != oneNaN {
			r.fault("another NaN")
		}
		next := api.Sample{T: t, V: math.Float64frombits(value), Stale: stale}
		if stale {
			next.V = 0
		}
		s = append(s, next)
	}
	switch {
	case r.wrong != "":
		return nil, r.wrong
	case len(r.bits) >= 8:
		return nil, "bytes behind the end"
	case strings.Contains(r.bits, "1"):
		return nil, "a fill bit 1"
	}
	return s, ""
}

// wordsBack: what Unpack makes of a list that was packed.
func wordsBack(s []api.Sample) []api.Sample {
	var back []api.Sample
	for _, x := range s {
		if x.Stale {
			x.V = 0
		}
		back = append(back, x)
	}
	return back
}

// alike: the same samples, values by their bits, NaNs as one.
func alike(a, b []api.Sample) bool {
	if len(a) != len(b) {
		return false
	}
	for i := range a {
		if a[i].T != b[i].T || a[i].Stale != b[i].Stale || wordsBits(a[i].V) != wordsBits(b[i].V) {
			return false
		}
	}
	return true
}
