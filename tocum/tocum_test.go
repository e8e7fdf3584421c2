package tocum_test

import (
	"math"
	"math/big"
	"math/rand"
	"testing"

	"limnograph/api"
	"limnograph/fold"
	"limnograph/hist"
	"limnograph/point"
	"limnograph/tocum"
)

const (
	inf  = 0x7ff0000000000000
	nan  = 0x7ff8000000000001
	huge = 0x7fefffffffffffff
	sign = 1 << 63
)

// bits is a float's.
func bits(f float64) uint64 {
	return math.Float64bits(f)
}

// sum is a whole sum.
func sum(start, time, v int) api.Point {
	return api.Point{Name: "x", Attrs: []api.Pair{{Key: "a", Val: "1"}}, Kind: api.IntSum, Temp: api.Delta, Start: start, Time: time, Int: v}
}

// float is a floating sum.
func float(start, time int, re uint64) api.Point {
	return api.Point{Name: "f", Kind: api.FloatSum, Temp: api.Delta, Start: start, Time: time, Re: re}
}

// phasor is a phasor.
func phasor(start, time int, re, im uint64) api.Point {
	return api.Point{Name: "f", Kind: api.Phasor, Temp: api.Delta, Start: start, Time: time, Re: re, Im: im}
}

// histo is a histogram with a Pos side alone.
func histo(scale, offset int, counts ...uint64) api.Hist {
	return api.Hist{Scale: scale, Pos: api.Side{Offset: offset, Counts: counts}}
}

// of is a point of a histogram.
func of(start, time int, h api.Hist) api.Point {
	return api.Point{Name: "h", Kind: api.Histo, Temp: api.Delta, Start: start, Time: time, Hist: h}
}

// state is what a point leaves behind no state.
func state(p api.Point) api.State {
	s, _, _ := tocum.Next(api.State{}, p, 160)
	return s
}

// P16.1.
func TestErrors(t *testing.T) {
	s := state(sum(10, 20, 5))
	flagged := sum(1, 2, 3)
	flagged.Flags = 8
	cumul := flagged
	cumul.Temp = api.Cumul
	wide := of(4, 5, histo(-10, 0, 1, 1, 1))
	for i, c := range []struct {
		s    api.State
		p    api.Point
		most int
		e    api.Errno
	}{
		{s, api.Point{}, 160, api.ErrForm},
		{s, cumul, 160, api.ErrKind},
		{s, flagged, 160, api.ErrForm},
		{api.State{}, api.Point{Name: "g", Kind: api.Gauge}, 160, api.ErrKind},
		{s, wide, 2, api.ErrLarge},
		{api.State{}, wide, -1, api.ErrLarge},
		{api.State{}, wide, 3, api.OK},

		{s, sum(10, 20, 5), 160, api.ErrOrder},
		{s, sum(0, 1, 5), 160, api.ErrOrder},
		{s, sum(19, 21, 5), 160, api.ErrOverlap},
		{s, sum(0, 21, 5), 160, api.ErrOverlap},
		{s, sum(20, 21, 5), 160, api.OK},
		{s, sum(22, 25, 5), 160, api.OK},
		{api.State{Start: 99, Time: 99}, sum(0, 1, 1), 160, api.OK},
	} {
		next, p, e := tocum.Next(c.s, c.p, c.most)
		if e != c.e || e != api.OK && (next.Some || !point.Same(p, api.Point{})) {
			t.Errorf("%d: %v %v %d", i, next, p, e)
		}
	}
}

// P16.2.
func TestNext(t *testing.T) {
	for i, c := range []struct {
		s      api.State
		p      api.Point
		start  int
		v      int
		re, im uint64
		flags  int
	}{
		{api.State{}, sum(3, 10, 5), 3, 5, 0, 0, api.First},
		{state(sum(0, 10, 5)), sum(10, 20, 3), 0, 8, 0, 0, 0},
		{state(sum(0, 20, 8)), sum(25, 30, 2), 25, 2, 0, 0, api.Gap},
		{state(sum(0, 20, 8)), sum(20, 30, -9), 0, -1, 0, 0, 0},

		{state(sum(0, 20, math.MaxInt)), sum(20, 30, 1), 20, 1, 0, 0, api.Over},
		{state(sum(0, 20, math.MaxInt)), sum(20, 30, 0), 0, math.MaxInt, 0, 0, 0},
		{state(sum(0, 20, math.MinInt)), sum(20, 30, -1), 20, -1, 0, 0, api.Over},
		{state(sum(0, 20, math.MinInt)), sum(20, 30, math.MaxInt), 0, -1, 0, 0, 0},

		{state(float(0, 20, bits(1.5))), float(20, 30, bits(1)), 0, 0, bits(2.5), 0, 0},
		{state(float(0, 20, huge)), float(20, 30, huge), 20, 0, huge, 0, api.Over},
		{state(float(0, 20, huge)), float(20, 30, inf), 0, 0, inf, 0, 0},
		{state(float(0, 20, inf)), float(20, 30, inf|sign), 0, 0, nan, 0, 0},

		{state(phasor(0, 20, 0, bits(3))), phasor(20, 30, bits(1), bits(1)), 0, 0, bits(1), bits(4), 0},
		{state(phasor(0, 20, 0, huge)), phasor(20, 30, bits(1), huge), 20, 0, bits(1), huge, api.Over},
		{state(phasor(0, 20, inf, huge)), phasor(20, 30, bits(1), huge), 0, 0, inf, inf, 0},
	} {
		s, p, e := tocum.Next(c.s, c.p, 160)
		want := point.Clone(c.p)
		want.Temp, want.Start, want.Int, want.Re, want.Im, want.Flags = api.Cumul, c.start, c.v, c.re, c.im, c.flags
		if e != api.OK || !point.Same(p, want) {
			t.Errorf("%d: %v %d", i, p, e)
		}
		if !s.Some || s.Start != c.start || s.Time != c.p.Time || s.Int != c.v || s.Re != c.re || s.Im != c.im {
			t.Errorf("%d: %v", i, s)
		}
	}
	m := float(0, 10, huge)
	m.Mono = true
	n := m
	n.Start, n.Time = 10, 20
	if _, p, e := tocum.Next(state(m), n, 160); p.Flags != api.Over || p.Re != huge || e != api.OK {
		t.Errorf("%v %d", p, e)
	}
}

// P16.3.
func TestTogether(t *testing.T) {
	const max = math.MaxUint64
	for i, c := range []struct {
		a, b api.Hist
		most int
		want api.Hist
		ok   bool
	}{
		{histo(1, 2, 1), histo(0, 1, 1), 1, histo(0, 1, 2), true},
		{histo(1, 2, 1), histo(1, 0, 1), 3, histo(1, 0, 1, 0, 1), true},
		{histo(1, 2, 1), histo(1, 0, 1), 2, histo(0, 0, 1, 1), true},
		{histo(1, 2, 1), histo(1, 0, 1), 1, histo(-1, 0, 2), true},

		{histo(-10, 0, 1), histo(-10, 1, 1), 1, api.Hist{}, false},
		{histo(-10, 0, 1), histo(-10, 1, 1), 2, histo(-10, 0, 1, 1), true},
		{histo(0, 0, 1), histo(0, 200, 1), 160, histo(-1, 0, append(append([]uint64{1}, make([]uint64, 99)...), 1)...), true},

		{histo(-10, 0, 1), histo(-10, 200, 1), 160, api.Hist{}, false},
		{histo(0, 0, 1), histo(0, 0, max), 160, api.Hist{}, false},
		{histo(0, 0, 0), histo(0, 0, 1), 160, api.Hist{}, false},
		{histo(0, 0, 1), histo(99, 0, 1), 160, api.Hist{}, false},
		{api.Hist{}, api.Hist{Scale: 3}, 0, api.Hist{}, true},
		{api.Hist{}, api.Hist{}, -1, api.Hist{}, false},

		{
			api.Hist{Neg: api.Side{Offset: 4, Counts: []uint64{1}}},
			api.Hist{Neg: api.Side{Offset: 7, Counts: []uint64{1}}},
			3,
			api.Hist{Scale: -1, Neg: api.Side{Offset: 2, Counts: []uint64{1, 1}}},
			true,
		},
	} {
		h, ok := tocum.Together(c.a, c.b, c.most)
		if ok != c.ok || !hist.Same(h, c.want) {
			t.Errorf("%d: %v %v", i, h, ok)
		}
	}
}

// P16.2: of histograms.
func TestHisto(t *testing.T) {
	s, p, e := tocum.Next(api.State{}, of(0, 10, histo(3, 0, 1, 2, 3)), 2)
	if e != api.OK || p.Flags != api.First || !hist.Same(p.Hist, histo(2, 0, 3, 3)) || !hist.Same(s.Hist, p.Hist) {
		t.Fatalf("%v %v %d", s, p, e)
	}
	s, p, e = tocum.Next(s, of(10, 20, histo(5, 64, 1)), 2)
	if e != api.OK || p.Flags != 0 || p.Start != 0 || !hist.Same(p.Hist, histo(-1, 0, 6, 1)) || !hist.Same(s.Hist, p.Hist) {
		t.Fatalf("%v %v %d", s, p, e)
	}
	s, p, e = tocum.Next(s, of(20, 30, histo(0, 0, math.MaxUint64)), 2)
	if e != api.OK || p.Flags != api.Over || p.Start != 20 || !hist.Same(p.Hist, histo(0, 0, math.MaxUint64)) || s.Start != 20 {
		t.Fatalf("%v %v %d", s, p, e)
	}
	s.Hist.Pos.Counts[0] = 77
	if p.Hist.Pos.Counts[0] != math.MaxUint64 {
		t.Error("state and point share memory")
	}
}

// P16.4.
func TestWhole(t *testing.T) {
	rnd := rand.New(rand.NewSource(1))
	for range 500 {
		s, time, whole := api.State{}, 0, new(big.Int)
		for range 40 {
			start := time
			if rnd.Intn(8) == 0 {
				start += rnd.Intn(3)
			}
			time = start + 1 + rnd.Intn(5)
			v := rnd.Intn(1000) - 500
			if rnd.Intn(3) == 0 {
				v = int(rnd.Uint64())
			}
			in := sum(start, time, v)
			next, p, e := tocum.Next(s, in, 160)
			if e != api.OK || point.Check(p) != api.OK {
				t.Fatalf("%v, %v: %v %d", s, in, p, e)
			}
			if p.Flags != 0 {
				whole.SetInt64(0)
			}
			if whole.Add(whole, big.NewInt(int64(v))); whole.Cmp(big.NewInt(int64(p.Int))) != 0 || next.Int != p.Int {
				t.Fatalf("%v: %v", p, whole)
			}
			s = next
		}
	}
}

// P16.4: of histograms, bucket by bucket at the answered scale.
func TestWholeHisto(t *testing.T) {
	rnd := rand.New(rand.NewSource(2))
	for range 300 {
		s := api.State{}
		var all []api.Hist
		for i := range 20 {
			in := of(i, i+1, histo(rnd.Intn(6), rnd.Intn(60)-30, uint64(1+rnd.Intn(3)), uint64(rnd.Intn(2)), 1))
			most := 6
			next, p, e := tocum.Next(s, in, most)
			if e != api.OK || point.Check(p) != api.OK || len(p.Hist.Pos.Counts) > most {
				t.Fatalf("%v: %v %d", in, p, e)
			}
			if p.Flags != 0 {
				all = nil
			}
			in.Hist, _ = hist.Fit(in.Hist, most)
			h, _ := hist.Down(in.Hist, max(0, in.Hist.Scale-p.Hist.Scale))
			all = append(all, h)
			for k := range all {
				all[k], _ = hist.Down(all[k], all[k].Scale-p.Hist.Scale)
			}
			if w, e := fold.Sum(all); e != api.OK || !hist.Same(w, p.Hist) {
				t.Fatalf("%v: %v", p, w)
			}
			s = next
		}
	}
}

// P16.4: whatever the state is, there is an answer, and memory is new.
func TestAnyState(t *testing.T) {
	rnd := rand.New(rand.NewSource(3))
	ints := []int{0, 1, -1, 5, 10, math.MaxInt, math.MinInt}
	for range 5000 {
		s := api.State{
			Some:  rnd.Intn(9) > 0,
			Start: ints[rnd.Intn(7)],
			Time:  ints[rnd.Intn(7)],
			Int:   ints[rnd.Intn(7)],
			Re:    rnd.Uint64(),
			Im:    rnd.Uint64(),
			Hist:  api.Hist{Scale: rnd.Intn(40) - 20, Pos: api.Side{Offset: ints[rnd.Intn(7)], Counts: make([]uint64, rnd.Intn(200))}},
		}
		for _, p := range []api.Point{sum(10, 20, 4), float(10, 20, bits(2)), phasor(10, 20, 1, 2), of(10, 20, histo(0, 0, 3))} {
			tocum.Next(s, p, rnd.Intn(200)-20)
		}
	}
	in := of(0, 10, histo(0, 0, 5))
	in.Attrs = []api.Pair{{Key: "k", Val: "v"}}
	s, p, _ := tocum.Next(api.State{}, in, 160)
	s.Hist.Pos.Counts[0], p.Hist.Pos.Counts[0], p.Attrs[0].Key = 9, 9, "z"
	if in.Hist.Pos.Counts[0] != 5 || in.Attrs[0].Key != "k" {
		t.Error("what is handed in is kept")
	}
}
