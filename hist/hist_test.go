package hist_test

import (
	"math"
	"math/rand"
	"testing"

	"limnograph/api"
	"limnograph/hist"
)

// side is a side from an index on.
func side(offset int, counts ...uint64) api.Side {
	return api.Side{Offset: offset, Counts: counts}
}

// ones is so many counts of 1.
func ones(n int) []uint64 {
	l := make([]uint64, n)
	for i := range l {
		l[i] = 1
	}
	return l
}

// some is a right histogram.
func some(rnd *rand.Rand) api.Hist {
	h := api.Hist{Scale: rnd.Intn(31) - 10, Zero: uint64(rnd.Intn(3))}
	for _, s := range []*api.Side{&h.Pos, &h.Neg} {
		n := rnd.Intn(10)
		if rnd.Intn(5) == 0 {
			n = rnd.Intn(161)
		}
		for range n {
			s.Counts = append(s.Counts, uint64(rnd.Intn(4)))
		}
		if n > 0 {
			s.Offset = rnd.Intn(2000) - 1000
			s.Counts[0]++
			s.Counts[n-1]++
			if rnd.Intn(4) == 0 {
				s.Offset = api.MaxIndex - n + 1
			}
		}
	}
	return h
}

// P8.1: Check.
func TestCheck(t *testing.T) {
	const max = math.MaxUint64
	for i, c := range []struct {
		h api.Hist
		e api.Errno
	}{
		{api.Hist{}, api.OK},
		{api.Hist{Scale: 20}, api.OK},
		{api.Hist{Scale: 21}, api.ErrArg},
		{api.Hist{Scale: -10}, api.OK},
		{api.Hist{Scale: -11}, api.ErrArg},
		{api.Hist{Scale: math.MinInt}, api.ErrArg},

		{api.Hist{Pos: side(0, ones(160)...)}, api.OK},
		{api.Hist{Pos: side(0, ones(161)...)}, api.ErrLarge},
		{api.Hist{Neg: side(0, ones(161)...)}, api.ErrLarge},

		{api.Hist{Pos: side(0, 0, 1)}, api.ErrForm},
		{api.Hist{Pos: side(0, 1, 0)}, api.ErrForm},
		{api.Hist{Neg: side(0, 0)}, api.ErrForm},
		{api.Hist{Neg: side(1)}, api.ErrForm},
		{api.Hist{Pos: side(0, 1, 0, 1)}, api.OK},

		{api.Hist{Pos: side(api.MaxIndex, 1)}, api.OK},
		{api.Hist{Pos: side(api.MaxIndex, 1, 1)}, api.ErrArg},
		{api.Hist{Pos: side(-api.MaxIndex, 1)}, api.OK},
		{api.Hist{Neg: side(-api.MaxIndex-1, 1, 1)}, api.ErrArg},

		{api.Hist{Neg: side(math.MaxInt, 1, 1)}, api.ErrArg},
		{api.Hist{Neg: side(math.MinInt, 1, 1)}, api.ErrArg},

		{api.Hist{Zero: max}, api.OK},
		{api.Hist{Zero: max, Pos: side(0, 1)}, api.ErrLarge},
		{api.Hist{Zero: 1, Neg: side(0, max)}, api.ErrLarge},
		{api.Hist{Pos: side(0, max-1), Neg: side(0, 1)}, api.OK},

		{api.Hist{Scale: 21, Pos: side(0, 0)}, api.ErrArg},
		{api.Hist{Pos: side(0, 0), Neg: side(0, ones(161)...)}, api.ErrForm},
		{api.Hist{Pos: side(math.MaxInt, 0)}, api.ErrForm},

		{api.Hist{Zero: max, Pos: side(math.MaxInt, 1)}, api.ErrArg},
		{api.Hist{Pos: side(math.MaxInt, append(ones(160), 0)...)}, api.ErrLarge},
	} {
		if e := hist.Check(c.h); e != c.e {
			t.Errorf("%d: %d", i, e)
		}
	}
}

// P8.1: Total.
func TestTotal(t *testing.T) {
	const max = math.MaxUint64
	for i, c := range []struct {
		h  api.Hist
		n  uint64
		ok bool
	}{
		{api.Hist{}, 0, true},
		{api.Hist{Zero: 2, Pos: side(0, 1, 3), Neg: side(5, 7)}, 13, true},
		{api.Hist{Zero: max}, max, true},
		{api.Hist{Zero: max, Neg: side(0, 1)}, 0, false},

		{api.Hist{Pos: side(0, max, max, 2)}, 0, false},
		{api.Hist{Scale: 99, Pos: side(0, ones(500)...)}, 500, true},
	} {
		if n, ok := hist.Total(c.h); n != c.n || ok != c.ok {
			t.Errorf("%d: %d %v", i, n, ok)
		}
	}
}

// P8.2.
func TestAtTrim(t *testing.T) {
	s := side(-3, 1, 2, 3)
	for _, c := range []struct {
		i int
		n uint64
	}{{-4, 0}, {-3, 1}, {-2, 2}, {-1, 3}, {0, 0}, {math.MinInt, 0}, {math.MaxInt, 0}} {
		if hist.At(s, c.i) != c.n {
			t.Errorf("At(%d): %d", c.i, hist.At(s, c.i))
		}
	}
	if hist.At(side(5), 5) != 0 || hist.At(side(math.MaxInt, 7), math.MaxInt) != 7 || hist.At(side(math.MinInt, 7), math.MaxInt) != 0 || hist.At(side(math.MaxInt, 7, 8), math.MinInt) != 0 {
		t.Error("At an edge")
	}
	for i, c := range [][2]api.Side{
		{side(0, 0, 0, 1, 0, 2, 0), side(2, 1, 0, 2)},
		{side(7), side(0)},
		{side(7, 0, 0), side(0)},
		{side(-3, 1), side(-3, 1)},
		{side(-3, 0, 5), side(-2, 5)},
	} {
		if got := hist.Trim(c[0]); !hist.Same(api.Hist{Pos: got}, api.Hist{Pos: c[1]}) {
			t.Errorf("%d: %v", i, got)
		}
	}
}

// P8.3.
func TestDown(t *testing.T) {
	h, e := hist.Down(api.Hist{Pos: side(-3, 1, 2, 3)}, 1)
	if e != api.OK || !hist.Same(h, api.Hist{Scale: -1, Pos: side(-2, 1, 5)}) {
		t.Errorf("%v %d", h, e)
	}
	for i, c := range []struct {
		h  api.Hist
		by int
		e  api.Errno
	}{
		{api.Hist{}, 0, api.OK},
		{api.Hist{}, 10, api.OK},
		{api.Hist{}, 11, api.ErrArg},
		{api.Hist{}, -1, api.ErrArg},
		{api.Hist{}, math.MinInt, api.ErrArg},
		{api.Hist{}, math.MaxInt, api.ErrArg},

		{api.Hist{Scale: 20}, 30, api.OK},
		{api.Hist{Scale: 20}, 31, api.ErrArg},
		{api.Hist{Pos: side(0, 0)}, -1, api.ErrForm},
		{api.Hist{Scale: -10}, 1, api.ErrArg},
		{api.Hist{Scale: -10}, math.MaxInt, api.ErrArg},
		{api.Hist{Scale: -3}, math.MaxInt, api.ErrArg},
		{api.Hist{Scale: -10}, 0, api.OK},
	} {
		if h, e := hist.Down(c.h, c.by); e != c.e || e != api.OK && !hist.Same(h, api.Hist{}) {
			t.Errorf("%d: %v %d", i, h, e)
		}
	}
	rnd := rand.New(rand.NewSource(1))
	for range 2000 {
		h := some(rnd)
		a := rnd.Intn(h.Scale + 11)
		x, e := hist.Down(h, a)
		if e != api.OK || hist.Check(x) != api.OK || x.Scale != h.Scale-a || x.Zero != h.Zero {
			t.Fatalf("%v down by %d: %v %d", h, a, x, e)
		}
		for k, s := range [2]api.Side{h.Pos, h.Neg} {
			d := [2]api.Side{x.Pos, x.Neg}[k]
			for i := range d.Counts {
				index, sum := d.Offset+i, uint64(0)
				for j := range s.Counts {
					if int(math.Floor(float64(s.Offset+j)/math.Pow(2, float64(a)))) == index {
						sum += s.Counts[j]
					}
				}
				if sum != d.Counts[i] {
					t.Fatalf("%v down by %d: %v", h, a, x)
				}
			}
		}
		n, _ := hist.Total(h)
		if m, _ := hist.Total(x); m != n {
			t.Fatalf("%v down by %d: %v", h, a, x)
		}
		b := rnd.Intn(x.Scale + 11)
		y, _ := hist.Down(x, b)
		if z, _ := hist.Down(h, a+b); !hist.Same(y, z) {
			t.Fatalf("%v down by %d and %d", h, a, b)
		}
	}
}

// P8.4.
func TestFit(t *testing.T) {
	rnd := rand.New(rand.NewSource(2))
	for range 2000 {
		h, most := some(rnd), rnd.Intn(30)-1
		got, e := hist.Fit(h, most)
		want, f := api.Hist{}, api.ErrLarge
		for by := 0; by <= h.Scale+10; by++ {
			x, _ := hist.Down(h, by)
			if len(x.Pos.Counts) <= most && len(x.Neg.Counts) <= most {
				want, f = x, api.OK
				break
			}
		}
		if e != f || !hist.Same(got, want) {
			t.Fatalf("%v, %d: %v %d", h, most, got, e)
		}
	}
	if _, e := hist.Fit(api.Hist{Pos: side(0, 0)}, 5); e != api.ErrForm {
		t.Errorf("%d", e)
	}
	if h, e := hist.Fit(api.Hist{Scale: 3}, 0); e != api.OK || h.Scale != 3 {
		t.Errorf("an empty one: %d", e)
	}
	if _, e := hist.Fit(api.Hist{}, -1); e != api.ErrLarge {
		t.Errorf("most below 0: %d", e)
	}
	if h, e := hist.Fit(api.Hist{Scale: 20, Pos: side(api.MaxIndex-159, ones(160)...), Neg: side(-5, 1, 0, 0, 0, 0, 1)}, 2); e != api.OK || h.Scale != 12 && len(h.Pos.Counts) > 2 {
		t.Errorf("%v %d", h, e)
	}
	if _, e := hist.Fit(api.Hist{Scale: -10, Pos: side(-1, 1, 1)}, 1); e != api.ErrLarge {
		t.Errorf("no by is enough: %d", e)
	}
}

// P8.5.
func TestSameClone(t *testing.T) {
	a := api.Hist{Scale: 1, Zero: 2, Pos: side(3, 4, 5), Neg: side(6, 7)}
	for i, b := range []api.Hist{
		{Scale: 2, Zero: 2, Pos: side(3, 4, 5), Neg: side(6, 7)},
		{Scale: 1, Zero: 3, Pos: side(3, 4, 5), Neg: side(6, 7)},
		{Scale: 1, Zero: 2, Pos: side(2, 4, 5), Neg: side(6, 7)},

		{Scale: 1, Zero: 2, Pos: side(3, 4, 6), Neg: side(6, 7)},
		{Scale: 1, Zero: 2, Pos: side(3, 4, 5), Neg: side(6, 7, 1)},
		{Scale: 1, Zero: 2, Pos: side(3, 4, 5), Neg: side(5, 7)},
		{},
	} {
		if hist.Same(a, b) || !hist.Same(b, b) {
			t.Errorf("%d", i)
		}
	}
	if !hist.Same(api.Hist{Pos: api.Side{Counts: []uint64{}}}, api.Hist{}) {
		t.Error("nil or not")
	}
	b := hist.Clone(a)
	if !hist.Same(a, b) {
		t.Error("Clone")
	}
	b.Pos.Counts[0], b.Neg.Counts[0] = 9, 9
	if a.Pos.Counts[0] != 4 || a.Neg.Counts[0] != 7 {
		t.Error("Clone shares memory")
	}
	c, _ := hist.Down(a, 0)
	d, _ := hist.Fit(a, 5)
	e := hist.Trim(a.Pos)
	c.Pos.Counts[0], d.Pos.Counts[0], e.Counts[0] = 9, 9, 9
	if !hist.Same(a, api.Hist{Scale: 1, Zero: 2, Pos: side(3, 4, 5), Neg: side(6, 7)}) {
		t.Error("an answer shares memory")
	}
}
