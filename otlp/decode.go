package otlp

import (
	"slices"

	"limnograph/api"
	"limnograph/label"
	"limnograph/pack"
	"limnograph/point"
	"limnograph/wire"
)

const (
	mostTime   = 1 << 53
	mostZagged = 1 << 40 // of a Scale and an Offset, and of one below 0
)

// series is what is told of points ahead of them.
type series struct {
	name  string
	attrs []api.Pair
	data  int // the number of the metric's field
	temp  int
	mono  bool
}

// open is the fields of a message; those whose numbers are told must have the types told.
func open(b []byte, types map[int]int) ([]api.Fld, api.Errno) {
	l, _, e := wire.Decode(b)
	if e != api.OK {
		return nil, e
	}
	for _, f := range l {
		if kind, told := types[f.Num]; told && f.Type != kind {
			return nil, api.ErrKind
		}
	}
	return l, api.OK
}

// each is what is made of the bytes of all fields with a number, one behind the other.
func each[T any](l []api.Fld, num int, read func(b []byte) ([]T, api.Errno)) ([]T, api.Errno) {
	var out []T
	for _, f := range wire.All(l, num) {
		more, e := read(f.B)
		if e != api.OK {
			return nil, e
		}
		out = append(out, more...)
	}
	return out, api.OK
}

// last is the last field with a number, or an empty one.
func last(l []api.Fld, num int) api.Fld {
	f, _ := wire.Last(l, num)
	return f
}

// count is how many fields have one of some numbers.
func count(l []api.Fld, nums ...int) int {
	n := 0
	for _, f := range l {
		if slices.Contains(nums, f.Num) {
			n++
		}
	}
	return n
}

// Decode is the points of a request.
func Decode(b []byte) ([]api.Point, api.Errno) {
	l, e := open(b, map[int]int{requestGroup: text})
	if e != api.OK {
		return nil, e
	}
	return each(l, requestGroup, readGroup)
}

// readGroup is the points of a group.
func readGroup(b []byte) ([]api.Point, api.Errno) {
	l, e := open(b, map[int]int{groupAttr: text, groupMetric: text})
	if e != api.OK {
		return nil, e
	}
	attrs, e := each(l, groupAttr, readAttr)
	if e != api.OK {
		return nil, e
	}
	return each(l, groupMetric, func(b []byte) ([]api.Point, api.Errno) {
		return readMetric(b, series{attrs: attrs})
	})
}

// readAttr is an attribute.
func readAttr(b []byte) ([]api.Pair, api.Errno) {
	l, e := open(b, map[int]int{attrKey: text, attrVal: text})
	if e != api.OK {
		return nil, e
	}
	return []api.Pair{{Key: string(last(l, attrKey).B), Val: string(last(l, attrVal).B)}}, api.OK
}

// readMetric is the points of a metric.
func readMetric(b []byte, s series) ([]api.Point, api.Errno) {
	l, e := open(b, map[int]int{metricName: text, metricGauge: text, metricSum: text, metricHisto: text, metricPhasor: text})
	if e != api.OK {
		return nil, e
	}
	if count(l, metricGauge, metricSum, metricHisto, metricPhasor) != 1 {
		return nil, api.ErrForm
	}
	s.name = string(last(l, metricName).B)
	for _, data := range [4]int{metricGauge, metricSum, metricHisto, metricPhasor} {
		if count(l, data) == 1 {
			s.data = data
		}
	}
	return readData(last(l, s.data).B, s)
}

// readData is the points of a metric's data.
func readData(b []byte, s series) ([]api.Point, api.Errno) {
	l, e := open(b, map[int]int{dataPoint: text, dataTemp: number, dataMono: number})
	if e != api.OK {
		return nil, e
	}
	temp, mono := last(l, dataTemp).V, last(l, dataMono).V
	if temp > 2 || mono > 1 {
		return nil, api.ErrForm
	}
	s.temp, s.mono = turnTemp(int(temp)), mono == 1
	return each(l, dataPoint, func(b []byte) ([]api.Point, api.Errno) {
		p, e := readPoint(b, s)
		return []api.Point{p}, e
	})
}

// pointTypes is the types of a point's fields.
func pointTypes() map[int]int {
	return map[int]int{
		pointStart: fixed, pointTime: fixed, pointRe: fixed, pointInt: fixed, pointIm: fixed,
		pointAttr: text, pointPos: text, pointNeg: text,
		pointScale: number, pointZero: number,
	}
}

// fieldsAreRight tells whether a point has such fields as its metric's data may have.
func fieldsAreRight(l []api.Fld, data int) bool {
	switch {
	case data == metricSum && count(l, pointRe, pointInt) != 1:
		return false
	case data != metricSum && count(l, pointInt) > 0:
		return false
	case data != metricPhasor && count(l, pointIm) > 0:
		return false
	case data != metricHisto && count(l, pointScale, pointZero, pointPos, pointNeg) > 0:
		return false
	}
	return data != metricHisto || count(l, pointRe) == 0
}

// kindOf is the kind of a point.
func kindOf(l []api.Fld, data int) int {
	switch data {
	case metricGauge:
		return api.Gauge
	case metricHisto:
		return api.Histo
	case metricPhasor:
		return api.Phasor
	}
	if count(l, pointInt) > 0 {
		return api.IntSum
	}
	return api.FloatSum
}

// readPoint is a point.
func readPoint(b []byte, s series) (api.Point, api.Errno) {
	l, e := open(b, pointTypes())
	if e != api.OK {
		return api.Point{}, e
	}
	if !fieldsAreRight(l, s.data) {
		return api.Point{}, api.ErrForm
	}
	start, time := last(l, pointStart).V, last(l, pointTime).V
	if start > mostTime || time > mostTime {
		return api.Point{}, api.ErrLarge
	}
	own, e := each(l, pointAttr, readAttr)
	if e != api.OK {
		return api.Point{}, e
	}
	p := api.Point{Name: s.name, Attrs: slices.Concat(s.attrs, own), Kind: kindOf(l, s.data), Temp: s.temp, Mono: s.mono, Start: int(start), Time: int(time)}
	p.Int, p.Re, p.Im = int(last(l, pointInt).V), last(l, pointRe).V, last(l, pointIm).V
	if s.data == metricHisto {
		if p.Hist, e = readHist(l); e != api.OK {
			return api.Point{}, e
		}
	}
	if e := point.Check(p); e != api.OK {
		return api.Point{}, e
	}
	p.Attrs = label.Sorted(p.Attrs)
	return p, api.OK
}

// readHist is the histogram of a point's fields.
func readHist(l []api.Fld) (api.Hist, api.Errno) {
	pos, e := readSide(last(l, pointPos).B)
	if e != api.OK {
		return api.Hist{}, e
	}
	neg, e := readSide(last(l, pointNeg).B)
	if e != api.OK {
		return api.Hist{}, e
	}
	h := api.Hist{Scale: pack.Zag(last(l, pointScale).V), Zero: last(l, pointZero).V, Pos: pos, Neg: neg}
	for _, v := range [3]int{h.Scale, pos.Offset, neg.Offset} {
		if v < -mostZagged || v > mostZagged {
			return api.Hist{}, api.ErrLarge
		}
	}
	return h, api.OK
}

// readSide is a side.
func readSide(b []byte) (api.Side, api.Errno) {
	l, e := open(b, map[int]int{sideOffset: number, sideCounts: text})
	if e != api.OK {
		return api.Side{}, e
	}
	counts, e := wire.Unpacked(last(l, sideCounts).B)
	return api.Side{Offset: pack.Zag(last(l, sideOffset).V), Counts: counts}, e
}
