package store

import (
	"weir/api"
	"weir/labels"
	"weir/lex"
)

// Check: is a dataset well-formed? If it isn't, the number of the first series at fault and its error.
func Check(d api.Dataset) (int, api.Errno) {
	if len(d.Series) > api.MaxSeries {
		return api.MaxSeries, api.ErrSize
	}
	l := look{seen: map[string]struct{}{}}
	for i, s := range d.Series {
		if e := l.fault(s); e != api.OK {
			return i, e
		}
	}
	return 0, api.OK
}

// A look goes over a dataset from its first series on: what those ahead leave behind, the next one is held against.
type look struct {
	seen   map[string]struct{} // their label sets, as texts: no two sets have one text
	points int                 // how many they have together
}

// fault: the error of the first rule that the next series breaks.
func (l *look) fault(s api.Series) api.Errno {
	switch {
	case len(s.Labels) > api.MaxLabels || !labels.Valid(s.Labels):
		return api.ErrSeries
	case tooLong(s.Labels):
		return api.ErrLong
	case misnamed(s.Labels):
		return api.ErrName
	case l.again(s.Labels):
		return api.ErrDup
	case !timely(s.Points):
		return api.ErrPoint
	}
	l.points += len(s.Points)
	if l.points > api.MaxSamples {
		return api.ErrSize
	}
	return api.OK
}

// tooLong: is a name or a value longer than a dataset's may be?
func tooLong(set []api.Label) bool {
	for _, l := range set {
		if len(l.Name) > api.MaxName || len(l.Value) > api.MaxValue {
			return true
		}
	}
	return false
}

// misnamed: is there a __name__ that is no metric's name?
func misnamed(set []api.Label) bool {
	name := labels.Get(set, api.MetricName)
	return name != "" && !lex.IsMetric(name)
}

// again: has a series ahead the same label set? The set is noted.
func (l *look) again(set []api.Label) bool {
	text := labels.Text(set)
	_, again := l.seen[text]
	l.seen[text] = struct{}{}
	return again
}

// timely: are the points' times such as may be, and do they rise?
func timely(points []api.Sample) bool {
	for k, p := range points {
		if p.T < api.MinTime || p.T > api.MaxTime || k > 0 && p.T <= points[k-1].T {
			return false
		}
	}
	return true
}
