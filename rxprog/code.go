package rxprog

import (
	"slices"

	"weir/api"
)

// tooMany: all lengths of code above MaxInst are told as this one, so that no product of repeats runs over.
const tooMany = api.MaxInst + 1

// length: how many instructions the code of a valid node has, up to tooMany.
func length(x api.Rx) int {
	n := 0
	for _, kid := range x.Kids {
		n += length(kid)
	}
	switch x.Kind {
	case api.RxEmpty, api.RxCat:
	case api.RxAlt:
		n += 2 * (len(x.Kids) - 1)
	case api.RxGroup:
		n += 2
	case api.RxRepeat:
		n = repeatLength(x, n)
	default:
		n = 1
	}
	return min(n, tooMany)
}

// repeatLength: the length of a repeat's code, its kid's being n.
func repeatLength(x api.Rx, n int) int {
	if x.Max == -1 {
		return x.Min*n + n + 2
	}
	return x.Min*n + (x.Max-x.Min)*(n+1)
}

// A coder holds code so far, which begins at the place 0.
type coder struct {
	insts []api.Inst
}

// programOf: the instructions of a valid tree that isn't too big, each with ranges of its own: pieces of code are laid again and again, and till here they share them.
func programOf(x api.Rx) []api.Inst {
	var c coder
	c.node(x)
	c.put(api.Inst{Op: api.OpMatch})
	for i := range c.insts {
		c.insts[i].Ranges = slices.Clone(c.insts[i].Ranges)
	}
	return c.insts
}

// end: the place right behind the code so far.
func (c *coder) end() int { return len(c.insts) }

func (c *coder) put(i api.Inst) { c.insts = append(c.insts, i) }

// step puts an instruction that goes on right behind itself.
func (c *coder) step(i api.Inst) {
	i.Out = c.end() + 1
	c.put(i)
}

func (c *coder) node(x api.Rx) {
	switch x.Kind {
	case api.RxLit:
		c.step(api.Inst{Op: api.OpRune, Ranges: []api.RuneRange{{Lo: x.R, Hi: x.R}}})
	case api.RxClass:
		c.class(x.Ranges)
	case api.RxCat:
		for _, kid := range x.Kids {
			c.node(kid)
		}
	case api.RxAlt:
		c.alternatives(x.Kids)
	case api.RxRepeat:
		c.repeat(x)
	case api.RxGroup:
		c.step(api.Inst{Op: api.OpSave, Arg: 2 * x.Cap})
		c.node(x.Kids[0])
		c.step(api.Inst{Op: api.OpSave, Arg: 2*x.Cap + 1})
	case api.RxBegin:
		c.step(api.Inst{Op: api.OpBegin})
	case api.RxEnd:
		c.step(api.Inst{Op: api.OpEnd})
	case api.RxLineBegin:
		c.step(api.Inst{Op: api.OpLineBegin})
	case api.RxLineEnd:
		c.step(api.Inst{Op: api.OpLineEnd})
	case api.RxWord:
		c.step(api.Inst{Op: api.OpWord})
	case api.RxNotWord:
		c.step(api.Inst{Op: api.OpWord, Arg: 1})
	}
}

func (c *coder) class(ranges []api.RuneRange) {
	if len(ranges) == 0 {
		c.put(api.Inst{Op: api.OpFail})
		return
	}
	c.step(api.Inst{Op: api.OpRune, Ranges: ranges})
}

// alternatives: where the next one begins, and where all end, is known only behind the code of what stands ahead of it.
func (c *coder) alternatives(kids []api.Rx) {
	last := len(kids) - 1
	var jumps []int
	for _, kid := range kids[:last] {
		split := c.end()
		c.step(api.Inst{Op: api.OpSplit})
		c.node(kid)
		jumps = append(jumps, c.end())
		c.put(api.Inst{Op: api.OpJump})
		c.insts[split].Alt = c.end()
	}
	c.node(kids[last])
	for _, jump := range jumps {
		c.insts[jump].Out = c.end()
	}
}

// repeat: the kid's code is made once and then laid as often as it is needed; to make it anew each time would take as long as the product of all repeats about it, even where it has no instruction.
func (c *coder) repeat(x api.Rx) {
	if x.Max == 0 {
		return
	}
	var kid coder
	kid.node(x.Kids[0])
	for range x.Min {
		c.lay(kid)
	}
	if x.Max == -1 {
		split := c.end()
		c.split(split+1+kid.end()+1, x.Lazy)
		c.lay(kid)
		c.put(api.Inst{Op: api.OpJump, Out: split})
		return
	}
	more := x.Max - x.Min
	end := c.end() + more*(1+kid.end())
	for range more {
		c.split(end, x.Lazy)
		c.lay(kid)
	}
}

// split puts the choice between going on right behind it and leaving the repeat, which a lazy one tries first.
func (c *coder) split(leave int, lazy bool) {
	i := api.Inst{Op: api.OpSplit, Out: c.end() + 1, Alt: leave}
	if lazy {
		i.Out, i.Alt = i.Alt, i.Out
	}
	c.put(i)
}

// lay puts a piece of code behind the code so far, its places moved there.
func (c *coder) lay(piece coder) {
	by := c.end()
	for _, i := range piece.insts {
		if i.Op != api.OpFail {
			i.Out += by
		}
		if i.Op == api.OpSplit {
			i.Alt += by
		}
		c.put(i)
	}
}
