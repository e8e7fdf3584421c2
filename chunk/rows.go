package chunk

import (
	"limnograph/api"
	"limnograph/bitio"
	"limnograph/histbits"
	"limnograph/vary"
	"limnograph/xor"
)

// rows are what a chunk's points go on in.
type rows struct {
	ord, time, span *vary.Row
	whole           *vary.Row
	re, im          *xor.Row
	hist            *histbits.Row
}

// newRows are rows without anything.
func newRows() rows {
	return rows{vary.NewRow(), vary.NewRow(), vary.NewRow(), vary.NewRow(), xor.NewRow(), xor.NewRow(), histbits.NewRow()}
}

// clone are rows that go on as these.
func (x rows) clone() rows {
	return rows{x.ord.Clone(), x.time.Clone(), x.span.Clone(), x.whole.Clone(), x.re.Clone(), x.im.Clone(), x.hist.Clone()}
}

// put puts an item, which is right, down.
func (x rows) put(w *bitio.Writer, it api.Item) {
	p := it.Point
	x.ord.Put(w, it.Ord)
	x.time.Put(w, p.Time)
	if p.Kind != api.Gauge {
		x.span.Put(w, p.Time-p.Start)
	}
	vary.Put(w, uint64(p.Flags))
	switch p.Kind {
	case api.IntSum:
		x.whole.Put(w, p.Int)
	case api.FloatSum, api.Gauge:
		x.re.Put(w, p.Re)
	case api.Phasor:
		x.re.Put(w, p.Re)
		x.im.Put(w, p.Im)
	case api.Histo:
		x.hist.Put(w, p.Hist)
	}
}
