package chunk

const byteBits = 8

// A stream is a row of bits that is being written, the highest bit of a byte first. What its last byte has left over is 0.
type stream struct {
	bytes []byte
	left  int // how many bits of the last byte are left over
}

// put: v, for which n bits are enough, in n bits, the highest first. What doesn't fit the last byte goes on in a new one, at whose end the bits that were put already fall off.
func (s *stream) put(v uint64, n int) {
	for n > 0 {
		if s.left == 0 {
			s.bytes = append(s.bytes, 0)
			s.left = byteBits
		}
		some := min(n, s.left)
		n -= some
		s.left -= some
		s.bytes[len(s.bytes)-1] |= byte(v>>n) << s.left
	}
}

// putWay: which one of several ways of writing comes now: a bit 1 for each way ahead of it, then a bit 0, which the last way doesn't need.
func (s *stream) putWay(way, last int) {
	for range way {
		s.put(1, 1)
	}
	if way < last {
		s.put(0, 1)
	}
}

// A source is a row of bits that is being read.
type source struct {
	rest   []byte // the bytes that aren't read to their end
	used   int    // how many bits of the first one are read
	broken bool   // is this no row of bits that Pack writes?
}

// take: the next n bits as a number. A source that hasn't as many is broken, and gives 0.
func (s *source) take(n int) uint64 {
	v := uint64(0)
	for n > 0 {
		if len(s.rest) == 0 {
			s.broken = true
			return 0
		}
		some := min(n, byteBits-s.used)
		piece := s.rest[0] << s.used >> (byteBits - some)
		v = v<<some | uint64(piece)
		n -= some
		s.used += some
		if s.used == byteBits {
			s.rest, s.used = s.rest[1:], 0
		}
	}
	return v
}

// takeWay: the way that putWay wrote.
func (s *source) takeWay(last int) int {
	way := 0
	for way < last && s.take(1) == 1 {
		way++
	}
	return way
}
