package rx

import (
	"slices"
	"sort"

	"weir/api"
	"weir/utf"
)

// A machine is a sound program, ready to be searched with.
type machine struct {
	prog   api.Prog
	joints []int // each instruction's number among the joints, from 0 on; -1, if it is none
	count  int   // how many joints there are
}

// machineOf finds the joints: the instructions to which more ways lead than one, the search's beginning counted. A point is tried a second time only where two ways come together (behind a rune too, since each place has at most one rune that ends at it), so all others need no mark; and each circle that a search can get into has a joint.
func machineOf(p api.Prog) machine {
	ways := make([]int, len(p.Insts))
	ways[p.Start]++
	for _, i := range p.Insts {
		switch i.Op {
		case api.OpMatch, api.OpFail:
			continue
		case api.OpSplit:
			ways[i.Alt]++
		}
		ways[i.Out]++
	}
	m := machine{prog: p, joints: make([]int, len(ways))}
	for i, n := range ways {
		m.joints[i] = -1
		if n > 1 {
			m.joints[i] = m.count
			m.count++
		}
	}
	return m
}

// find: the finding of the search in a text; none, if it fails.
func (m *machine) find(text string) []int {
	slots := slices.Repeat([]int{-1}, 2*(m.prog.Groups+1))
	if !m.takes(text, slots) {
		return nil
	}
	slots[0], slots[1] = 0, len(text)
	return slots
}

// takes: whether the search in a text goes well. Slots may be nil where nobody asks for them.
func (m *machine) takes(text string, slots []int) bool {
	s := search{machine: m, text: text, slots: slots, tried: marks{size: m.count * (len(text) + 1)}}
	return s.goesWell(m.prog.Start, 0)
}

// A search is one search of a machine's program in a text.
type search struct {
	*machine
	text  string
	slots []int
	tried marks
	later stack
}

// A task waits until what is tried now has failed: a point is to be tried, or a slot gets back the value that it had.
type task struct {
	inst int // the point's instruction; below 0 the slot's number, with its sign turned
	at   int // the point's place, or the slot's value
}

// goesWell tries a point, and whatever is left for later. (No call of itself: a way may be as long as all points together.)
func (s *search) goesWell(inst, at int) bool {
	s.later.push(task{inst, at})
next:
	for !s.later.isEmpty() {
		t := s.later.pop()
		if t.inst < 0 {
			s.slots[-t.inst] = t.at
			continue
		}
		inst, at = t.inst, t.at
		for s.isNew(inst, at) {
			i := &s.prog.Insts[inst]
			switch i.Op {
			case api.OpMatch:
				if at == len(s.text) {
					return true
				}
				continue next
			case api.OpFail:
				continue next
			case api.OpRune:
				r, width := utf.Next(s.text, at)
				if !holds(i.Ranges, r) {
					continue next
				}
				at += width
			case api.OpSplit:
				s.later.push(task{i.Alt, at})
			case api.OpSave:
				s.save(i.Arg, at)
			default:
				if !isPlace(i, s.text, at) {
					continue next
				}
			}
			inst = i.Out
		}
	}
	return false
}

// isNew: whether the point has not been tried before; from now on it has.
func (s *search) isNew(inst, at int) bool {
	joint := s.joints[inst]
	return joint < 0 || s.tried.add(joint*(len(s.text)+1)+at)
}

// save notes a place in a slot, and leaves it for later to take that back.
func (s *search) save(slot, at int) {
	if s.slots == nil {
		return
	}
	s.later.push(task{-slot, s.slots[slot]})
	s.slots[slot] = at
}

// holds: whether a rune is in one of the ranges, which rise. (What stands for no rune, -1, is in none.)
func holds(ranges []api.RuneRange, r rune) bool {
	n := sort.Search(len(ranges), func(k int) bool { return r <= ranges[k].Hi })
	return n < len(ranges) && ranges[n].Lo <= r
}

// isPlace: whether a place is such a one as the instruction asks for; an OpJump takes any.
func isPlace(i *api.Inst, text string, at int) bool {
	switch i.Op {
	case api.OpBegin:
		return at == 0
	case api.OpEnd:
		return at == len(text)
	case api.OpLineBegin:
		return at == 0 || text[at-1] == '\n'
	case api.OpLineEnd:
		return at == len(text) || text[at] == '\n'
	case api.OpWord:
		return isEdge(text, at) == (i.Arg == 0)
	}
	return true
}

// isEdge: whether just one of the bytes ahead of a place and at it is a word byte.
func isEdge(text string, at int) bool {
	ahead := at > 0 && isWordByte(text[at-1])
	here := at < len(text) && isWordByte(text[at])
	return ahead != here
}

func isWordByte(b byte) bool {
	return '0' <= b && b <= '9' || 'A' <= b && b <= 'Z' || b == '_' || 'a' <= b && b <= 'z'
}
