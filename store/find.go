package store

import (
	"slices"
	"strings"

	"weir/api"
)

// Select: the numbers of the series of which all matchers hold, rising.
func (s *Store) Select(ms []api.Matcher) ([]int, api.Errno) {
	if s == nil {
		s = &Store{} // matchers are refused all the same
	}
	return s.finder.Find(ms)
}

// Names: the names of labels of the series of which all matchers hold, sorted.
func (s *Store) Names(ms []api.Matcher) ([]string, api.Errno) {
	all, e := s.chosen(ms)
	var names []string
	for _, l := range all {
		names = append(names, l.Name)
	}
	return eachOnce(names), e
}

// Values: a label's values in the series of which all matchers hold, sorted.
func (s *Store) Values(ms []api.Matcher, name string) ([]string, api.Errno) {
	all, e := s.chosen(ms)
	var values []string
	for _, l := range all {
		if l.Name == name {
			values = append(values, l.Value)
		}
	}
	return eachOnce(values), e
}

// chosen: all labels of the series of which all matchers hold, their texts in the store's own memory.
func (s *Store) chosen(ms []api.Matcher) ([]api.Label, api.Errno) {
	numbers, e := s.Select(ms)
	var all []api.Label
	for _, i := range numbers {
		all = append(all, s.series[i].set...)
	}
	return all, e
}

// eachOnce: texts in memory of their own, sorted, each one once.
func eachOnce(texts []string) []string {
	slices.Sort(texts)
	var made []string
	for _, text := range slices.Compact(texts) {
		made = append(made, strings.Clone(text))
	}
	return made
}
