package turn_test

import (
	"testing"

	"limnograph/api"
	"limnograph/hist"
	"limnograph/turn"
)

func TestFitted(t *testing.T) {
	h := api.Hist{Pos: api.Side{Counts: []uint64{1, 2, 3}}}
	p := api.Point{Name: "x", Attrs: []api.Pair{{Key: "a", Val: "1"}}, Kind: api.Histo, Temp: api.Delta, Time: 1, Hist: h}
	for _, c := range []struct {
		flags, most int
		e           api.Errno
	}{{0, 3, api.OK}, {0, 2, api.OK}, {0, 0, api.ErrLarge}, {0, -1, api.ErrLarge}, {1, 3, api.ErrForm}, {1, 0, api.ErrForm}} {
		p.Flags = c.flags
		q, e := turn.Fitted(p, c.most)
		if e != c.e || e == api.OK && (len(q.Hist.Pos.Counts) > c.most || q.Name != "x") {
			t.Errorf("%v: %v %d", c, q, e)
		}
	}
	for i, c := range []struct {
		f func(p *api.Point)
		e api.Errno
	}{
		{func(p *api.Point) { p.Flags = 0 }, api.OK},
		{func(p *api.Point) { p.Flags = 0; p.Name = "" }, api.ErrForm},
		{func(p *api.Point) { p.Temp = api.Cumul; p.Flags = 1 }, api.ErrKind},
		{func(p *api.Point) { p.Flags = 1 }, api.ErrForm},
	} {
		x := p
		c.f(&x)
		if _, e := turn.Taken(x, api.Delta, 3); e != c.e {
			t.Errorf("%d: %d", i, e)
		}
	}
	p.Flags = 0
	q, _ := turn.Fitted(p, 3)
	q.Attrs[0].Key, q.Hist.Pos.Counts[0] = "z", 9
	if p.Attrs[0].Key != "a" || !hist.Same(p.Hist, h) || h.Pos.Counts[0] != 1 {
		t.Error("memory is shared")
	}
}
