package chunk

import "math/bits"

const (
	wordBits   = 64 // of a time or a value
	numberBits = 17 // of the number of samples
	placeBits  = 6  // of a place in a word, or of a stretch's length less 1
)

// A trail is what the samples so far leave behind, by which the next one is written and read.
type trail struct {
	count int    // how many there are
	time  int64  // of the last one
	step  int64  // from the time ahead to the last one's
	value uint64 // the bits of the last one that isn't stale
	frame frame
}

// A scale is a way of writing a whole number: how far it is above least, in width bits.
type scale struct {
	least int64
	width int
}

// scales: the ways of writing how much a step differs from the one ahead, the narrow ones first.
var scales = [...]scale{{0, 0}, {-63, 7}, {-255, 9}, {-2047, 12}, {0, wordBits}}

const lastScale = len(scales) - 1

func (s scale) above(n int64) uint64 { return uint64(n - s.least) }

// reaches: is n neither below least nor too far above it? What is below goes round and is far above.
func (s scale) reaches(n int64) bool { return s.above(n)>>s.width == 0 }

// The ways of writing a value.
const (
	sameValue = iota // it is the one ahead
	inFrame          // by the frame that stands
	newFrame         // by a frame that is told ahead of it
	staleMark        // there is none
)

// A frame is the stretch of a word's bits outside which two values don't differ: from one bit, counted from the highest, to ahead of another. The zero frame, which is none, covers nothing.
type frame struct {
	from, to int
}

// frameOf: the narrowest frame of a difference, which isn't 0.
func frameOf(x uint64) frame {
	return frame{bits.LeadingZeros64(x), wordBits - bits.TrailingZeros64(x)}
}

func (f frame) size() int { return f.to - f.from }

// covers: does all that lies in g lie in f?
func (f frame) covers(g frame) bool { return f.from <= g.from && g.to <= f.to }
