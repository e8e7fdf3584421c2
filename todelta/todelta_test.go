package todelta_test

import (
	"math"
	"math/big"
	"math/rand"
	"testing"

	"limnograph/api"
	"limnograph/fold"
	"limnograph/hist"
	"limnograph/point"
	"limnograph/todelta"
)

const (
	inf  = 0x7ff0000000000000
	nan  = 0x7ff8000000000001
	huge = 0x7fefffffffffffff
	sign = 1 << 63
)

// bits is a float's.
func bits(f float64) uint64 {
	return math.Float64bits(f)
}

// sum is a whole sum.
func sum(start, time, v int) api.Point {
	return api.Point{Name: "x", Attrs: []api.Pair{{Key: "a", Val: "1"}}, Kind: api.IntSum, Temp: api.Cumul, Start: start, Time: time, Int: v}
}

// mono is a whole sum with Mono.
func mono(start, time, v int) api.Point {
	p := sum(start, time, v)
	p.Mono = true
	return p
}

// float is a floating sum.
func float(time int, re uint64) api.Point {
	return api.Point{Name: "f", Kind: api.FloatSum, Temp: api.Cumul, Time: time, Re: re}
}

// phasor is a phasor.
func phasor(time int, re, im uint64) api.Point {
	return api.Point{Name: "f", Kind: api.Phasor, Temp: api.Cumul, Time: time, Re: re, Im: im}
}

// histo is a histogram from 0 on.
func histo(time, scale, offset int, counts ...uint64) api.Point {
	return api.Point{Name: "h", Kind: api.Histo, Temp: api.Cumul, Time: time, Hist: api.Hist{Scale: scale, Pos: api.Side{Offset: offset, Counts: counts}}}
}

// state is what a point leaves behind no state.
func state(p api.Point) api.State {
	s, _, _ := todelta.Next(api.State{}, p, 160)
	return s
}

// P15.1.
func TestErrors(t *testing.T) {
	s := state(sum(10, 20, 5))
	flagged := mono(1, 2, 3)
	flagged.Flags = 1
	delta := flagged
	delta.Temp = api.Delta
	wide := histo(5, -10, 0, 1, 1, 1)
	wide.Flags = 0
	for i, c := range []struct {
		s    api.State
		p    api.Point
		most int
		e    api.Errno
	}{
		{s, api.Point{}, 160, api.ErrForm},
		{s, delta, 160, api.ErrKind},
		{s, flagged, 160, api.ErrForm},
		{api.State{}, api.Point{Name: "g", Kind: api.Gauge}, 160, api.ErrKind},
		{s, wide, -1, api.ErrLarge},
		{api.State{}, wide, 0, api.ErrLarge},
		{api.State{}, wide, 2, api.ErrLarge},
		{api.State{}, wide, 3, api.OK},
		{api.State{}, sum(0, 1, 1), -5, api.OK},

		{s, sum(10, 20, 5), 160, api.ErrOrder},
		{s, sum(10, 19, 5), 160, api.ErrOrder},
		{s, sum(5, 20, 5), 160, api.ErrOrder},
		{s, sum(9, 21, 5), 160, api.ErrOverlap},
		{s, sum(11, 21, 5), 160, api.ErrOverlap},
		{s, sum(19, 21, 5), 160, api.ErrOverlap},
		{s, sum(20, 21, 5), 160, api.OK},
		{s, sum(10, 21, 5), 160, api.OK},
		{s, sum(25, 26, 5), 160, api.OK},

		{api.State{Start: 99, Time: 99}, sum(0, 1, 1), 160, api.OK},
	} {
		next, p, e := todelta.Next(c.s, c.p, c.most)
		if e != c.e || e != api.OK && (next.Some || !point.Same(p, api.Point{})) {
			t.Errorf("%d: %v %v %d", i, next, p, e)
		}
	}
}

// P15.2, P15.3.
func TestNext(t *testing.T) {
	for i, c := range []struct {
		s      api.State
		p      api.Point
		start  int
		v      int
		re, im uint64
		flags  int
	}{
		{api.State{}, mono(3, 10, 5), 3, 5, 0, 0, api.First},
		{state(mono(0, 10, 5)), mono(0, 20, 8), 10, 3, 0, 0, 0},
		{state(mono(0, 20, 8)), mono(0, 30, 2), 20, 2, 0, 0, api.Fell},
		{state(mono(0, 20, 8)), mono(0, 30, 8), 20, 0, 0, 0, 0},

		{state(sum(0, 20, 8)), sum(0, 30, 2), 20, -6, 0, 0, 0},
		{state(mono(0, 20, 8)), mono(20, 30, 2), 20, 2, 0, 0, api.Moved},
		{state(mono(0, 20, 8)), mono(21, 30, 9), 21, 9, 0, 0, api.Moved | api.Gap},

		{state(sum(0, 20, math.MinInt)), sum(0, 30, 0), 20, 0, 0, 0, api.Over},
		{state(sum(0, 20, math.MinInt)), sum(0, 30, -1), 20, math.MaxInt, 0, 0, 0},
		{state(sum(0, 20, math.MaxInt)), sum(0, 30, -1), 20, math.MinInt, 0, 0, 0},
		{state(sum(0, 20, math.MaxInt)), sum(0, 30, -2), 20, -2, 0, 0, api.Over},

		{state(sum(0, 20, 1)), sum(0, 30, math.MinInt), 20, math.MinInt, 0, 0, api.Over},
		{state(sum(0, 20, -1)), sum(0, 30, math.MaxInt), 20, math.MaxInt, 0, 0, api.Over},
		{state(mono(0, 20, 0)), mono(0, 30, math.MaxInt), 20, math.MaxInt, 0, 0, 0},

		{state(float(20, bits(1.5))), float(30, bits(1)), 20, 0, bits(-0.5), 0, 0},
		{state(float(20, huge)), float(30, huge|sign), 20, 0, huge | sign, 0, api.Over},
		{state(float(20, inf)), float(30, bits(1)), 20, 0, inf | sign, 0, 0},
		{state(float(20, inf)), float(30, inf), 20, 0, nan, 0, 0},

		{state(phasor(20, 0, bits(3))), phasor(30, bits(1), bits(1)), 20, 0, bits(1), bits(-2), 0},
		{state(phasor(20, 0, huge)), phasor(30, bits(1), huge|sign), 20, 0, bits(1), huge | sign, api.Over},
		{state(phasor(20, inf, huge)), phasor(30, bits(1), huge|sign), 20, 0, inf | sign, inf | sign, 0},
	} {
		s, p, e := todelta.Next(c.s, c.p, 160)
		want := point.Clone(c.p)
		want.Temp, want.Start, want.Int, want.Re, want.Im, want.Flags = api.Delta, c.start, c.v, c.re, c.im, c.flags
		if e != api.OK || !point.Same(p, want) {
			t.Errorf("%d: %v %d", i, p, e)
		}
		if !s.Some || s.Start != c.p.Start || s.Time != c.p.Time || s.Int != c.p.Int || s.Re != c.p.Re || s.Im != c.p.Im {
			t.Errorf("%d: %v", i, s)
		}
	}
	f := float(10, bits(5))
	f.Mono = true
	g := f
	g.Time, g.Re = 20, bits(4)
	if _, p, _ := todelta.Next(state(f), g, 160); p.Flags != api.Fell || p.Re != bits(4) || p.Start != 10 {
		t.Errorf("%v", p)
	}
}

// P15.2, P15.3: of histograms.
func TestHisto(t *testing.T) {
	s, p, e := todelta.Next(api.State{}, histo(10, 3, 0, 1, 2, 3), 2)
	if e != api.OK || p.Flags != api.First || !hist.Same(p.Hist, histo(10, 2, 0, 3, 3).Hist) || !hist.Same(s.Hist, p.Hist) {
		t.Fatalf("%v %v %d", s, p, e)
	}
	s, p, e = todelta.Next(s, histo(20, 1, 0, 8), 2)
	if e != api.OK || p.Flags != 0 || p.Start != 10 || !hist.Same(p.Hist, histo(20, 1, 0, 2).Hist) || !hist.Same(s.Hist, histo(20, 1, 0, 8).Hist) {
		t.Fatalf("%v %v %d", s, p, e)
	}
	s, p, e = todelta.Next(s, histo(30, 3, 3, 9), 2)
	if e != api.OK || p.Flags != 0 || p.Start != 20 || !hist.Same(p.Hist, histo(20, 1, 0, 1).Hist) || !hist.Same(s.Hist, histo(20, 1, 0, 9).Hist) {
		t.Fatalf("%v %v %d", s, p, e)
	}
	s, p, e = todelta.Next(s, histo(40, 3, 3, 8), 2)
	if e != api.OK || p.Flags != api.Fell || p.Start != 30 || !hist.Same(p.Hist, histo(40, 3, 3, 8).Hist) || !hist.Same(s.Hist, p.Hist) || s.Start != 0 {
		t.Fatalf("%v %v %d", s, p, e)
	}
	s.Hist.Pos.Counts[0] = 77
	if p.Hist.Pos.Counts[0] != 8 {
		t.Error("state and point share memory")
	}
}

// P15.4: what comes out is, from each new epoch on, the same whole, and its times tile.
func TestWhole(t *testing.T) {
	rnd := rand.New(rand.NewSource(1))
	for range 500 {
		isMono := rnd.Intn(2) == 0
		s, start, time, whole, end := api.State{}, 0, 0, new(big.Int), 0
		for range 40 {
			if rnd.Intn(8) == 0 {
				start = time + rnd.Intn(3)
			}
			time = max(start, time) + 1 + rnd.Intn(5)
			v := rnd.Intn(1000)
			if rnd.Intn(2) == 0 {
				v = int(rnd.Uint64() >> 1)
			}
			if !isMono && rnd.Intn(2) == 0 {
				v = -v
			}
			in := sum(start, time, v)
			in.Mono = isMono
			next, p, e := todelta.Next(s, in, 160)
			if e != api.OK || point.Check(p) != api.OK || p.Time != time {
				t.Fatalf("%v, %v: %v %d", s, in, p, e)
			}
			if p.Flags != 0 {
				whole.SetInt64(0)
			} else if p.Start != end {
				t.Fatalf("%v begins at %d, not %d", in, p.Start, end)
			}
			if whole.Add(whole, big.NewInt(int64(p.Int))); whole.Cmp(big.NewInt(int64(v))) != 0 {
				t.Fatalf("%v: %v", in, whole)
			}
			s, end = next, time
		}
	}
}

// P15.4: of histograms, bucket by bucket.
func TestWholeHisto(t *testing.T) {
	rnd := rand.New(rand.NewSource(2))
	for range 300 {
		s, cum := api.State{}, api.Hist{Scale: 6}
		var whole api.Hist
		for i := range 25 {
			more := histo(1, rnd.Intn(6)+1, rnd.Intn(40)-20, uint64(1+rnd.Intn(3))).Hist
			if rnd.Intn(9) == 0 {
				cum = api.Hist{Scale: 6}
			}
			cum, _ = fold.Merge(cum, more)
			in := api.Point{Name: "h", Kind: api.Histo, Temp: api.Cumul, Time: i + 1, Hist: cum}
			most := 8
			next, p, e := todelta.Next(s, in, most)
			if e != api.OK || point.Check(p) != api.OK || len(p.Hist.Pos.Counts) > most || len(next.Hist.Pos.Counts) > most {
				t.Fatalf("%v: %v %d", in, p, e)
			}
			if p.Flags != 0 {
				whole = p.Hist
			} else {
				whole, _ = fold.Merge(whole, p.Hist)
			}
			fitted, _ := hist.Fit(cum, most)
			a, b, _ := fold.Level(fitted, next.Hist)
			w, _, _ := fold.Level(whole, next.Hist)
			if !hist.Same(a, b) || !hist.Same(w, next.Hist) {
				t.Fatalf("%v: %v, %v", in, whole, next.Hist)
			}
			s = next
		}
	}
}

// P15.4: whatever the state is, there is an answer, and memory is new.
func TestAnyState(t *testing.T) {
	rnd := rand.New(rand.NewSource(3))
	ints := []int{0, 1, -1, 5, 10, math.MaxInt, math.MinInt}
	for range 5000 {
		s := api.State{
			Some:  rnd.Intn(9) > 0,
			Start: ints[rnd.Intn(7)],
			Time:  ints[rnd.Intn(7)],
			Int:   ints[rnd.Intn(7)],
			Re:    rnd.Uint64(),
			Im:    rnd.Uint64(),
			Hist:  api.Hist{Scale: rnd.Intn(40) - 20, Pos: api.Side{Offset: ints[rnd.Intn(7)], Counts: make([]uint64, rnd.Intn(200))}},
		}
		for _, p := range []api.Point{sum(0, 20, 4), float(20, bits(2)), phasor(20, 1, 2), histo(20, 0, 0, 3)} {
			todelta.Next(s, p, rnd.Intn(200)-20)
		}
	}
	in := histo(10, 0, 0, 5)
	in.Attrs = []api.Pair{{Key: "k", Val: "v"}}
	s, p, _ := todelta.Next(api.State{}, in, 160)
	s.Hist.Pos.Counts[0], p.Hist.Pos.Counts[0], p.Attrs[0].Key = 9, 9, "z"
	if in.Hist.Pos.Counts[0] != 5 || in.Attrs[0].Key != "k" {
		t.Error("what is handed in is kept")
	}
}
