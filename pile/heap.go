package pile

// A heap keeps its list so that nothing in it is ahead of what stands over it (over the place i stands (i-1)/2); so the first thing of all stands at the list's beginning.
// Whatever ahead answers, a step only moves things about within the list and goes straight up or straight down: it ends, and nothing is lost.
type heap[E any] struct {
	ahead func(a, b E) bool
	list  []E
}

func (h *heap[E]) push(x E) {
	h.list = append(h.list, x)
	h.rise(len(h.list) - 1)
}

// pop takes out the first of a heap that holds something.
func (h *heap[E]) pop() E {
	first, last := h.list[0], len(h.list)-1
	h.list[0] = h.list[last]
	clear(h.list[last:]) // what is out must not be held by the spare room
	h.list = h.list[:last]
	h.sink()
	return first
}

// replace puts x in the place of the first of a heap that holds something.
func (h *heap[E]) replace(x E) {
	h.list[0] = x
	h.sink()
}

// rise lifts what stands at i to where it belongs.
func (h *heap[E]) rise(i int) {
	for i > 0 {
		over := (i - 1) / 2
		if !h.ahead(h.list[i], h.list[over]) {
			return
		}
		h.list[i], h.list[over] = h.list[over], h.list[i]
		i = over
	}
}

// sink lowers what stands at the beginning to where it belongs.
func (h *heap[E]) sink() {
	i := 0
	for {
		under := h.under(i)
		if under == 0 || !h.ahead(h.list[under], h.list[i]) {
			return
		}
		h.list[i], h.list[under] = h.list[under], h.list[i]
		i = under
	}
}

// under: the place of the first of those right under i; 0, if there are none.
func (h *heap[E]) under(i int) int {
	left, right := 2*i+1, 2*i+2
	switch {
	case left >= len(h.list):
		return 0
	case right < len(h.list) && h.ahead(h.list[right], h.list[left]):
		return right
	}
	return left
}

// A ranked thing has a number of its own, by which things that are alike are told apart.
type ranked[T any] struct {
	thing T
	rank  int
}

// inOrder makes of less an order in which no two things are alike: of those that less finds alike the lower rank is ahead.
// The lower rank needs no more than that the other isn't less, so that less is asked once.
func inOrder[T any](less func(a, b T) bool) func(a, b ranked[T]) bool {
	if less == nil {
		less = func(a, b T) bool { return false }
	}
	return func(a, b ranked[T]) bool {
		if a.rank < b.rank {
			return !less(b.thing, a.thing)
		}
		return less(a.thing, b.thing)
	}
}
