package index

import "slices"

// And: the numbers that stand in both lists, rising.
func And(a, b []int) []int { return those(rising(a), rising(b), true) }

// Or: the numbers that stand in one of the lists or in both, rising.
func Or(a, b []int) []int { return rising(slices.Concat(a, b)) }

// Without: the numbers of a that don't stand in b, rising.
func Without(a, b []int) []int { return those(rising(a), rising(b), false) }

// rising: a list's numbers sorted, each once.
func rising(list []int) []int {
	made := slices.Clone(list)
	slices.Sort(made)
	return slices.Compact(made)
}

// those: the numbers of a that stand in b, or else those that don't; both lists rise.
func those(a, b []int, standing bool) []int {
	if standing && len(b) < len(a) {
		a, b = b, a // what stands in both is the same either way, and the shorter list is the sooner gone through
	}
	var made []int
	for _, n := range a {
		if _, stands := slices.BinarySearch(b, n); stands == standing {
			made = append(made, n)
		}
	}
	return made
}
