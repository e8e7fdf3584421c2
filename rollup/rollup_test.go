package rollup_test

import (
	"math"
	"math/rand"
	"slices"
	"testing"

	"limnograph/api"
	"limnograph/fold"
	"limnograph/hist"
	"limnograph/point"
	"limnograph/rollup"
)

// bits is a float's.
func bits(f float64) uint64 {
	return math.Float64bits(f)
}

// sum is a whole sum of what came in between.
func sum(start, time, v int) api.Point {
	return api.Point{Name: "x", Kind: api.IntSum, Temp: api.Delta, Start: start, Time: time, Int: v}
}

// but is a point that is changed.
func but(p api.Point, f func(p *api.Point)) api.Point {
	p = point.Clone(p)
	f(&p)
	return p
}

// histo is a histogram of what came in between.
func histo(start, time, scale, offset int, counts ...uint64) api.Point {
	return api.Point{Name: "h", Kind: api.Histo, Temp: api.Delta, Start: start, Time: time, Hist: api.Hist{Scale: scale, Pos: api.Side{Offset: offset, Counts: counts}}}
}

// P36.1.
func TestWindow(t *testing.T) {
	for _, c := range [][3]int{
		{0, 1, 0},
		{19, 20, 0},
		{20, 20, 1},
		{39, 20, 1},
		{5, 0, -1},
		{5, -1, -1},
		{-1, 5, -1},
		{api.MaxTime, 1, api.MaxTime},
		{api.MaxTime + 1, 1, -1},
		{5, math.MaxInt, 0},
		{math.MinInt, math.MinInt, -1},
	} {
		if rollup.Window(c[0], c[1]) != c[2] {
			t.Errorf("%v: %d", c, rollup.Window(c[0], c[1]))
		}
	}
}

// P36.2: the errors.
func TestErrors(t *testing.T) {
	const huge = 0x7fefffffffffffff
	mono := api.Point{Name: "f", Kind: api.FloatSum, Temp: api.Delta, Mono: true, Time: 1, Re: huge}
	later := func(p api.Point) api.Point { return but(p, func(p *api.Point) { p.Start, p.Time = p.Time, p.Time+1 }) }
	cumul := but(sum(0, 5, math.MaxInt), func(p *api.Point) { p.Temp = api.Cumul })
	for i, c := range []struct {
		a, b api.Point
		e    api.Errno
	}{
		{api.Point{}, api.Point{Name: "x"}, api.ErrForm},
		{sum(0, 1, 1), api.Point{Name: "x"}, api.ErrKind},
		{api.Point{Name: "x"}, api.Point{}, api.ErrKind},
		{sum(0, 5, 1), but(sum(0, 5, 1), func(p *api.Point) { p.Name = "y" }), api.ErrKind},
		{sum(0, 5, 1), but(sum(5, 6, 1), func(p *api.Point) { p.Mono = true }), api.ErrKind},
		{sum(0, 5, 1), sum(0, 5, 1), api.ErrOrder},
		{sum(0, 5, 1), sum(0, 4, 1), api.ErrOrder},
		{sum(0, 5, 1), sum(4, 6, 1), api.ErrOverlap},
		{sum(0, 5, 1), sum(5, 6, 1), api.OK},
		{sum(0, 5, 1), sum(7, 8, 1), api.OK},

		{sum(0, 5, math.MaxInt), sum(5, 6, 1), api.ErrLarge},
		{sum(0, 5, math.MinInt), sum(5, 6, -1), api.ErrLarge},
		{sum(0, 5, math.MaxInt), sum(4, 6, 1), api.ErrOverlap},
		{sum(0, 5, math.MinInt), sum(5, 6, math.MaxInt), api.OK},
		{mono, later(mono), api.ErrFinite},
		{but(mono, func(p *api.Point) { p.Mono = false }), later(but(mono, func(p *api.Point) { p.Mono = false })), api.OK},
		{cumul, but(cumul, func(p *api.Point) { p.Time = 6 }), api.OK},
		{cumul, but(cumul, func(p *api.Point) { p.Time = 4 }), api.ErrOrder},

		{histo(0, 1, 0, 0, math.MaxUint64), histo(1, 2, 0, 0, 1), api.ErrLarge},
		{histo(0, 1, -10, 0, 1), histo(1, 2, -10, 200, 1), api.ErrLarge},
		{histo(0, 1, 0, 0, 1), histo(1, 2, 0, 200, 1), api.OK},
	} {
		if p, e := rollup.Merge(c.a, c.b); e != c.e || e != api.OK && !point.Same(p, api.Point{}) {
			t.Errorf("%d: %v %d", i, p, e)
		}
	}
}

// P36.2: what is put together.
func TestMerge(t *testing.T) {
	attrs := []api.Pair{{Key: "b", Val: "1"}, {Key: "a", Val: "2"}}
	a := but(sum(0, 5, 3), func(p *api.Point) { p.Attrs, p.Flags = attrs, api.First })
	b := but(sum(7, 9, -5), func(p *api.Point) { p.Attrs, p.Flags = attrs, api.Gap })
	want := but(sum(0, 9, -2), func(p *api.Point) { p.Attrs, p.Flags = attrs, api.First|api.Gap })
	gauge := func(time int, re uint64) api.Point {
		return api.Point{Name: "g", Kind: api.Gauge, Start: time, Time: time, Re: re}
	}
	float := func(temp, start, time int, re uint64) api.Point {
		return api.Point{Name: "f", Kind: api.FloatSum, Temp: temp, Start: start, Time: time, Re: re}
	}
	phasor := func(start, time int, re, im uint64) api.Point {
		return api.Point{Name: "p", Kind: api.Phasor, Temp: api.Delta, Start: start, Time: time, Re: re, Im: im}
	}
	cumul := func(start, time, v int) api.Point {
		return but(sum(start, time, v), func(p *api.Point) { p.Temp = api.Cumul })
	}
	for i, c := range [][3]api.Point{
		{a, b, want},
		{gauge(3, 4), gauge(5, 6), gauge(5, 6)},
		{float(2, 0, 5, bits(1.5)), float(2, 5, 7, bits(2)), float(2, 0, 7, bits(3.5))},
		{float(1, 0, 5, bits(1.5)), float(1, 0, 7, bits(2)), float(1, 0, 7, bits(2))},
		{phasor(0, 5, bits(1), bits(2)), phasor(5, 6, bits(3), bits(-2)), phasor(0, 6, bits(4), 0)},
		{cumul(1, 5, 9), cumul(6, 8, 2), cumul(1, 8, 2)},

		{histo(0, 1, 1, 2, 1), histo(1, 2, 0, 1, 1), histo(0, 2, 0, 1, 2)},
		{float(2, 0, 5, 0x7ff0000000000000), float(2, 5, 7, 0xfff0000000000000), float(2, 0, 7, 0x7ff8000000000001)},
	} {
		if p, e := rollup.Merge(c[0], c[1]); e != api.OK || !point.Same(p, c[2]) || point.Check(p) != api.OK {
			t.Errorf("%d: %v %d", i, p, e)
		}
	}
	p, _ := rollup.Merge(a, b)
	p.Attrs[0].Key = "z"
	h := histo(0, 1, 0, 0, 5)
	h.Temp = api.Cumul
	g := but(h, func(p *api.Point) { p.Time = 2 })
	q, _ := rollup.Merge(h, g)
	q.Hist.Pos.Counts[0] = 9
	if b.Attrs[0].Key != "b" || g.Hist.Pos.Counts[0] != 5 {
		t.Error("memory is shared")
	}
}

// P36.3.
func TestRoll(t *testing.T) {
	const max = math.MaxInt
	huge := func(start, time int) api.Point {
		return api.Point{Name: "f", Kind: api.FloatSum, Temp: api.Delta, Mono: true, Start: start, Time: time, Re: 0x7fefffffffffffff}
	}
	other := but(sum(30, 31, 1), func(p *api.Point) { p.Name = "y" })
	for i, c := range []struct {
		l     []api.Point
		width int
		want  []api.Point
		at    int
		e     api.Errno
	}{
		{nil, 5, nil, 0, api.OK},
		{nil, 0, nil, 0, api.ErrArg},
		{[]api.Point{{}}, -1, nil, 0, api.ErrArg},
		{[]api.Point{{}}, 1, nil, 0, api.ErrForm},
		{[]api.Point{sum(0, 10, 5), sum(10, 12, 3), sum(20, 25, 2)}, 20, []api.Point{sum(0, 12, 8), sum(20, 25, 2)}, 0, api.OK},
		{[]api.Point{sum(0, 10, 5), sum(10, 12, 3), {}}, 20, nil, 2, api.ErrForm},
		{[]api.Point{sum(0, 10, 5), sum(10, 12, 3), other}, 20, nil, 2, api.ErrKind},
		{[]api.Point{sum(0, 10, 5), sum(10, 12, 3), other}, 100, nil, 2, api.ErrKind},

		{[]api.Point{sum(0, 30, 5), sum(10, 12, 3)}, 20, nil, 1, api.ErrOrder},
		{[]api.Point{sum(0, 12, 5), sum(10, 30, 3)}, 20, nil, 1, api.ErrOverlap},
		{[]api.Point{sum(0, 12, max), sum(12, 13, 1)}, 20, nil, 1, api.ErrLarge},
		{[]api.Point{sum(0, 12, max), sum(12, 30, 1)}, 20, []api.Point{sum(0, 12, max), sum(12, 30, 1)}, 0, api.OK},
		{[]api.Point{sum(0, 1, max-1), sum(1, 2, 1), sum(2, 3, 1)}, 20, nil, 2, api.ErrLarge},
		{[]api.Point{sum(0, 1, max-1), sum(1, 2, 1), sum(20, 21, 1)}, 20, []api.Point{sum(0, 2, max), sum(20, 21, 1)}, 0, api.OK},

		{[]api.Point{huge(0, 1), huge(1, 2)}, 20, nil, 1, api.ErrFinite},
		{[]api.Point{huge(0, 1), huge(1, 20)}, 20, []api.Point{huge(0, 1), huge(1, 20)}, 0, api.OK},
		{
			[]api.Point{histo(0, 1, 0, 0, math.MaxUint64), histo(1, 20, 0, 0, 1)},
			20,
			[]api.Point{histo(0, 1, 0, 0, math.MaxUint64), histo(1, 20, 0, 0, 1)},
			0,
			api.OK,
		},
		{[]api.Point{sum(0, 1, 1), sum(1, 2, 1)}, max, []api.Point{sum(0, 2, 2)}, 0, api.OK},
	} {
		l, at, e := rollup.Roll(c.l, c.width)
		if !slices.EqualFunc(l, c.want, point.Same) || at != c.at || e != c.e {
			t.Errorf("%d: %v, %d at %d", i, l, e, at)
		}
	}
	in := []api.Point{histo(0, 1, 0, 0, 5)}
	out, _, _ := rollup.Roll(in, 5)
	out[0].Hist.Pos.Counts[0] = 9
	if in[0].Hist.Pos.Counts[0] != 5 {
		t.Error("memory is shared")
	}
}

// P36.4.
func TestTwice(t *testing.T) {
	rnd := rand.New(rand.NewSource(1))
	for range 1000 {
		var l []api.Point
		isHist := rnd.Intn(2) == 0
		time := 0
		whole := 0
		var hists []api.Hist
		for range rnd.Intn(30) {
			start := time + rnd.Intn(2)
			time = start + 1 + rnd.Intn(5)
			p := sum(start, time, rnd.Intn(100)-50)
			if isHist {
				p = histo(start, time, rnd.Intn(8), rnd.Intn(400)-200, 1, 0, 2)
				hists = append(hists, p.Hist)
			}
			p.Flags = rnd.Intn(2) * rnd.Intn(32)
			whole += p.Int
			l = append(l, p)
		}
		a, b := 1+rnd.Intn(10), 1+rnd.Intn(5)
		once, _, e := rollup.Roll(l, a*b)
		some, _, f := rollup.Roll(l, a)
		twice, _, g := rollup.Roll(some, a*b)
		if e != api.OK || f != api.OK || g != api.OK || !slices.EqualFunc(once, twice, point.Same) {
			t.Fatalf("%v by %d, %d: %v, %v", l, a, b, once, twice)
		}
		left := whole
		for _, p := range once {
			left -= p.Int
			for i := range hists {
				hists[i], _ = hist.Down(hists[i], max(0, hists[i].Scale-p.Hist.Scale))
			}
		}
		if left != 0 {
			t.Fatalf("%v: %d are lost", l, left)
		}
		if isHist && len(l) > 0 {
			n, m := uint64(0), uint64(0)
			for _, h := range hists {
				x, _ := hist.Total(h)
				n += x
			}
			for _, p := range once {
				x, _ := hist.Total(p.Hist)
				m += x
			}
			if n != m {
				t.Fatalf("%v: %d, not %d", l, m, n)
			}
		}
		if len(once) == 1 && isHist {
			for i := range hists {
				hists[i], _ = hist.Down(hists[i], hists[i].Scale-once[0].Hist.Scale)
			}
			if h, e := fold.Sum(hists); e != api.OK || !hist.Same(h, once[0].Hist) {
				t.Fatalf("%v: %v", l, once)
			}
		}
	}
}
