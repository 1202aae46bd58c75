package chunk

import (
	"weir/api"
	"weir/num"
)

// A reader goes over a form's samples. It takes what Pack wouldn't write too, as far as that can be read: whether it is so written is Unpack's to ask.
type reader struct {
	in source
	trail
}

// read: the samples that b is read as; false, if it can't be read.
func read(b []byte) ([]api.Sample, bool) {
	r := reader{in: source{rest: b}}
	var s []api.Sample
	for range r.in.take(numberBits) {
		x := r.next()
		if r.in.broken {
			return nil, false
		}
		s = append(s, x)
	}
	return s, !r.in.broken
}

func (r *reader) next() api.Sample {
	r.takeTime()
	stale := r.takeValue()
	r.count++
	if stale {
		return api.Sample{T: r.time, Stale: true}
	}
	return api.Sample{T: r.time, V: num.FromBits(r.value)}
}

func (r *reader) takeTime() {
	if r.count == 0 {
		r.time = int64(r.in.take(wordBits))
		return
	}
	way := scales[r.in.takeWay(lastScale)]
	r.step += way.least + int64(r.in.take(way.width))
	r.time += r.step
}

// takeValue: the next value's bits, put into the trail; true, if the sample is stale and has none.
func (r *reader) takeValue() bool {
	switch r.in.takeWay(staleMark) {
	case staleMark:
		return true
	case sameValue:
		return false
	case newFrame:
		r.takeFrame()
	}
	r.value ^= r.in.take(r.frame.size()) << (wordBits - r.frame.to)
	return false
}

// takeFrame: a new frame. One that goes beyond a word's end isn't set: there is nothing to be read by it.
func (r *reader) takeFrame() {
	from := int(r.in.take(placeBits))
	to := from + int(r.in.take(placeBits)) + 1
	if to > wordBits {
		r.in.broken = true
		return
	}
	r.frame = frame{from, to}
}
