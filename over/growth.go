package over

import "weir/api"

// extrapolated: how much the value grew over the whole window (by the second or in all), as if it had gone on steadily beyond the points. There are two of them at least.
func extrapolated(w api.Window, counter, perSecond bool) float64 {
	first, last := w.Points[0], w.Points[len(w.Points)-1]
	grown := growth(w.Points, counter)
	between := inSeconds(last.T - first.T)
	step := between / float64(len(w.Points)-1)
	before, behind := reach(inSeconds(first.T-w.From), step), reach(inSeconds(w.To-last.T), step)
	if counter && grown > 0 && first.V >= 0 {
		fromZero := float64(between * (first.V / grown))
		if fromZero < before { // it can't have begun below 0
			before = fromZero
		}
	}
	times := ((between + before) + behind) / between
	if perSecond {
		times /= inSeconds(w.To - w.From)
	}
	return float64(grown * times)
}

// growth: how much the value grew from the first point to the last one. A counter that began anew has grown by what it was as well.
func growth(ps []api.Sample, counter bool) float64 {
	grown := ps[len(ps)-1].V - ps[0].V
	if !counter {
		return grown
	}
	for i := 1; i < len(ps); i++ {
		if isReset(ps[i-1].V, ps[i].V) {
			grown += ps[i-1].V
		}
	}
	return grown
}

// reach: how far growing is taken to go on towards an end of the window that is far seconds away, where the points are a step apart: up to the end, or half a step where a further point should have been seen.
func reach(far, step float64) float64 {
	const nearly = 1.1
	if far >= float64(step*nearly) {
		return step / 2
	}
	return far
}

// instant: how much the value grew between the last two points, that of a counter by the second.
func instant(ps []api.Sample, counter bool) float64 {
	was, now := ps[len(ps)-2], ps[len(ps)-1]
	grown := now.V - was.V
	if !counter {
		return grown
	}
	if isReset(was.V, now.V) {
		grown = now.V
	}
	return grown / inSeconds(now.T-was.T)
}

func inSeconds(ms int64) float64 {
	return float64(ms) / millisOfSecond
}
