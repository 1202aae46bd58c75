package pile

// Sorted answers the things of list, the least first, those alike in list's order.
func Sorted[T any](list []T, less func(a, b T) bool) []T {
	p := New(less)
	for _, x := range list {
		p.Push(x)
	}
	out := make([]T, 0, len(list))
	for x := range p.Drain() {
		out = append(out, x)
	}
	return out
}

// Best answers the first k things of Sorted(list, less), or all of them, if there are fewer.
func Best[T any](list []T, k int, less func(a, b T) bool) []T {
	if k < 1 {
		return nil
	}
	if k >= len(list) {
		return Sorted(list, less)
	}
	kept := firstOnes(list, k, inOrder(less))
	out := make([]T, k)
	for i := k - 1; i >= 0; i-- {
		out[i] = kept.pop().thing
	}
	return out
}

// firstOnes: the first k of a list of more, as a heap that gives the last of them first; it never holds more than k, so that a short answer from a long list takes little room.
func firstOnes[T any](list []T, k int, ahead func(a, b ranked[T]) bool) *heap[ranked[T]] {
	kept := &heap[ranked[T]]{ahead: func(a, b ranked[T]) bool { return ahead(b, a) }}
	for i, x := range list {
		next := ranked[T]{x, i}
		if i < k {
			kept.push(next)
		} else if ahead(next, kept.list[0]) {
			kept.replace(next)
		}
	}
	return kept
}

// Merge answers all things of all lists: at each moment the first of those that stand at the lists' beginnings, of things alike the one whose list stands ahead. Of sorted lists it makes a sorted one.
func Merge[T any](less func(a, b T) bool, lists ...[]T) []T {
	rests := &heap[ranked[[]T]]{ahead: inOrder(byHeads(less))}
	size := 0
	for i, list := range lists {
		if len(list) > 0 {
			rests.push(ranked[[]T]{list, i})
		}
		size += len(list)
	}
	out := make([]T, 0, size)
	for len(rests.list) > 0 {
		next := rests.list[0]
		out = append(out, next.thing[0])
		if next.thing = next.thing[1:]; len(next.thing) > 0 {
			rests.replace(next)
		} else {
			rests.pop()
		}
	}
	return out
}

// byHeads orders lists that hold something by their first things.
func byHeads[T any](less func(a, b T) bool) func(a, b []T) bool {
	if less == nil {
		return nil
	}
	return func(a, b []T) bool { return less(a[0], b[0]) }
}
