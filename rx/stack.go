package rx

// blockTasks: so many tasks fill a block.
const blockTasks = 1 << 16

// A stack holds the tasks that are left for later, the last one the next to be done. A way through a long text leaves tasks by the million, so full blocks stay where they are: one list would be moved over and over as it grows.
type stack struct {
	full  [][]task
	top   []task
	spare []task // an empty block that was the top: one who goes to and fro at a block's end needs no new one each time
}

func (s *stack) isEmpty() bool { return len(s.top)+len(s.full) == 0 }

func (s *stack) push(t task) {
	if len(s.top) == blockTasks {
		s.full = append(s.full, s.top)
		s.top, s.spare = s.spare, nil
	}
	s.top = append(s.top, t)
}

// pop takes the last task of a stack that isn't empty.
func (s *stack) pop() task {
	if len(s.top) == 0 {
		last := len(s.full) - 1
		s.spare = s.top
		s.top, s.full = s.full[last], s.full[:last]
	}
	last := len(s.top) - 1
	t := s.top[last]
	s.top = s.top[:last]
	return t
}
