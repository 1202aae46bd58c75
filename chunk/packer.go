package chunk

import (
	"slices"

	"weir/api"
	"weir/num"
)

// A Packer packs samples one by one. Its stream has bits 0 where the number of samples belongs, which isn't known till Bytes is asked.
type Packer struct {
	out stream
	trail
}

// New: a packer that holds nothing.
func New() *Packer {
	p := &Packer{}
	p.out.put(0, numberBits)
	return p
}

// Add: one sample more, behind those that it holds.
func (p *Packer) Add(s api.Sample) api.Errno {
	switch {
	case p == nil:
		return api.ErrArg
	case p.count == api.MaxSamples:
		return api.ErrLong
	case p.count > 0 && s.T <= p.time:
		return api.ErrOrder
	}
	p.putTime(s.T)
	if s.Stale {
		p.out.putWay(staleMark, staleMark)
	} else {
		p.putValue(num.Bits(s.V))
	}
	p.count++
	return api.OK
}

// Len: how many samples it holds.
func (p *Packer) Len() int {
	if p == nil {
		return 0
	}
	return p.count
}

// Bytes: the form of the samples that it holds.
func (p *Packer) Bytes() []byte {
	if p == nil {
		p = New()
	}
	var number stream
	number.put(uint64(p.count), numberBits)
	form := slices.Clone(p.out.bytes)
	for i, b := range number.bytes {
		form[i] |= b
	}
	return form
}

func (p *Packer) putTime(t int64) {
	if p.count == 0 {
		p.out.put(uint64(t), wordBits)
	} else {
		step := t - p.time
		p.putChange(step - p.step)
		p.step = step
	}
	p.time = t
}

// putChange: how much a step differs from the one ahead, in the first way that is wide enough; the last one always is.
func (p *Packer) putChange(change int64) {
	way := 0
	for !scales[way].reaches(change) {
		way++
	}
	p.out.putWay(way, lastScale)
	p.out.put(scales[way].above(change), scales[way].width)
}

func (p *Packer) putValue(value uint64) {
	x := value ^ p.value
	p.value = value
	if x == 0 {
		p.out.putWay(sameValue, staleMark)
		return
	}
	if needed := frameOf(x); p.frame.covers(needed) {
		p.out.putWay(inFrame, staleMark)
	} else {
		p.frame = needed
		p.out.putWay(newFrame, staleMark)
		p.out.put(uint64(needed.from), placeBits)
		p.out.put(uint64(needed.size()-1), placeBits)
	}
	p.out.put(x>>(wordBits-p.frame.to), p.frame.size())
}
