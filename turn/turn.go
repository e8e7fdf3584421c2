// Package turn is what the layers that turn points have in common.
package turn

import (
	"limnograph/api"
	"limnograph/hist"
	"limnograph/point"
)

// Fitted is a point that may be turned or passed on, with its fitted histogram: ErrForm, if it has flags; ErrLarge, if it doesn't fit so many buckets.
func Fitted(p api.Point, most int) (api.Point, api.Errno) {
	if p.Flags != 0 {
		return api.Point{}, api.ErrForm
	}
	out := point.Clone(p)
	if p.Kind != api.Histo {
		return out, api.OK
	}
	h, e := hist.Fit(p.Hist, most)
	if e != api.OK {
		return api.Point{}, e
	}
	out.Hist = h
	return out, api.OK
}

// Taken is a point of a temporality that may be turned, with its fitted histogram: the error of point.Check; ErrKind, if it has another temporality; the error of Fitted.
func Taken(p api.Point, temp, most int) (api.Point, api.Errno) {
	if e := point.Check(p); e != api.OK {
		return api.Point{}, e
	}
	if p.Temp != temp {
		return api.Point{}, api.ErrKind
	}
	return Fitted(p, most)
}
