package store

import (
	"sort"
	"sync"

	"weir/api"
	"weir/chunk"
)

// A held is one series of a store. Its points stay packed till somebody asks for them, and then are unpacked for good; several may ask at one time.
type held struct {
	set    []api.Label
	lock   sync.Mutex // guards packed and points
	packed []byte     // nil, once points stand in its place
	points []api.Sample
}

// unpacked: the series' points, in the store's own memory: they are only looked at.
func (h *held) unpacked() []api.Sample {
	if h == nil {
		return nil
	}
	h.lock.Lock()
	defer h.lock.Unlock()
	if h.packed != nil {
		h.points, _ = chunk.Unpack(h.packed)
		h.packed = nil
	}
	return h.points
}

// At: the sample of series i that counts at the time t.
func (s *Store) At(i int, t int64) (api.Sample, bool) {
	points := s.number(i).unpacked()
	n := upTo(points, t)
	if n == 0 {
		return api.Sample{}, false
	}
	last := points[n-1]
	if last.Stale || last.T+api.Lookback <= t { // t may be any number, from which Lookback can't always be taken
		return api.Sample{}, false
	}
	return last, true
}

// Window: the samples of series i with from < T <= to that are not stale.
func (s *Store) Window(i int, from, to int64) []api.Sample {
	points := s.number(i).unpacked()
	points = points[:upTo(points, to)]
	var taken []api.Sample
	for _, p := range points[upTo(points, from):] {
		if !p.Stale {
			taken = append(taken, p)
		}
	}
	return taken
}

// upTo: how many of the points have a time of at most t.
func upTo(points []api.Sample, t int64) int {
	return sort.Search(len(points), func(k int) bool { return points[k].T > t })
}
