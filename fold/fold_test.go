package fold_test

import (
	"math"
	"math/rand"
	"testing"

	"limnograph/api"
	"limnograph/fold"
	"limnograph/hist"
)

// side is a side from an index on.
func side(offset int, counts ...uint64) api.Side {
	return api.Side{Offset: offset, Counts: counts}
}

// bad is a histogram that isn't right.
func bad() api.Hist {
	return api.Hist{Pos: side(0, 0, 1)}
}

// some is a right histogram near 0.
func some(rnd *rand.Rand) api.Hist {
	h := api.Hist{Scale: rnd.Intn(31) - 10, Zero: uint64(rnd.Intn(3))}
	for _, s := range []*api.Side{&h.Pos, &h.Neg} {
		n := rnd.Intn(12)
		for range n {
			s.Counts = append(s.Counts, uint64(rnd.Intn(4)))
		}
		if n > 0 {
			s.Offset = rnd.Intn(300) - 150
			s.Counts[0]++
			s.Counts[n-1]++
		}
	}
	return h
}

// P9.1.
func TestLevel(t *testing.T) {
	a, b := api.Hist{Scale: 3, Pos: side(8, 1)}, api.Hist{Scale: 1, Zero: 1, Neg: side(-1, 2)}
	x, y, e := fold.Level(a, b)
	if e != api.OK || !hist.Same(x, api.Hist{Scale: 1, Pos: side(2, 1)}) || !hist.Same(y, b) {
		t.Errorf("%v %v %d", x, y, e)
	}
	y, x, e = fold.Level(b, a)
	if e != api.OK || !hist.Same(x, api.Hist{Scale: 1, Pos: side(2, 1)}) || !hist.Same(y, b) {
		t.Errorf("%v %v %d", x, y, e)
	}
	for i, c := range []struct {
		a, b api.Hist
		e    api.Errno
	}{{bad(), api.Hist{Scale: 99}, api.ErrForm}, {api.Hist{Scale: 99}, bad(), api.ErrArg}, {a, bad(), api.ErrForm}} {
		if x, y, e := fold.Level(c.a, c.b); e != c.e || !hist.Same(x, api.Hist{}) || !hist.Same(y, api.Hist{}) {
			t.Errorf("%d: %d", i, e)
		}
		if _, e := fold.Merge(c.a, c.b); e != c.e {
			t.Errorf("Merge %d: %d", i, e)
		}
		if _, e := fold.Sub(c.a, c.b); e != c.e {
			t.Errorf("Sub %d: %d", i, e)
		}
	}
}

// P9.2.
func TestMerge(t *testing.T) {
	const max = math.MaxUint64
	for i, c := range []struct {
		a, b, want api.Hist
		e          api.Errno
	}{
		{api.Hist{Scale: 1, Pos: side(2, 1)}, api.Hist{Pos: side(1, 1)}, api.Hist{Pos: side(1, 2)}, api.OK},
		{api.Hist{}, api.Hist{Scale: 5}, api.Hist{}, api.OK},

		{api.Hist{Zero: max}, api.Hist{Neg: side(0, 1)}, api.Hist{}, api.ErrLarge},
		{api.Hist{Zero: max - 1}, api.Hist{Neg: side(0, 1)}, api.Hist{Zero: max - 1, Neg: side(0, 1)}, api.OK},

		{api.Hist{Pos: side(0, 1)}, api.Hist{Pos: side(160, 1)}, api.Hist{}, api.ErrArg},
		{api.Hist{Neg: side(160, 1)}, api.Hist{Neg: side(0, 1)}, api.Hist{}, api.ErrArg},

		{api.Hist{Pos: side(0, max)}, api.Hist{Pos: side(160, 1)}, api.Hist{}, api.ErrLarge},
		{api.Hist{Pos: side(-api.MaxIndex, 1)}, api.Hist{Pos: side(api.MaxIndex, 1)}, api.Hist{}, api.ErrArg},

		{api.Hist{Pos: side(3, 1)}, api.Hist{Pos: side(1, 4)}, api.Hist{Pos: side(1, 4, 0, 1)}, api.OK},
	} {
		if h, e := fold.Merge(c.a, c.b); e != c.e || !hist.Same(h, c.want) {
			t.Errorf("%d: %v %d", i, h, e)
		}
	}
	if h, e := fold.Merge(api.Hist{Pos: side(0, 1)}, api.Hist{Pos: side(159, 1)}); e != api.OK || len(h.Pos.Counts) != 160 {
		t.Errorf("a span of MaxCounts: %d", e)
	}
}

// P9.3.
func TestSub(t *testing.T) {
	for i, c := range []struct {
		a, b, want api.Hist
		e          api.Errno
	}{
		{api.Hist{Pos: side(1, 2)}, api.Hist{Pos: side(1, 1)}, api.Hist{Pos: side(1, 1)}, api.OK},
		{api.Hist{Pos: side(1, 2)}, api.Hist{Pos: side(1, 3)}, api.Hist{}, api.ErrNone},

		{api.Hist{Zero: 1}, api.Hist{Zero: 2}, api.Hist{}, api.ErrNone},
		{api.Hist{Zero: 1}, api.Hist{Zero: 1}, api.Hist{}, api.OK},
		{api.Hist{Pos: side(1, 2)}, api.Hist{Neg: side(1, 1)}, api.Hist{}, api.ErrNone},

		{api.Hist{Neg: side(1, 2)}, api.Hist{Neg: side(2, 1)}, api.Hist{}, api.ErrNone},
		{api.Hist{Neg: side(1, 2, 0, 5)}, api.Hist{Neg: side(1, 2)}, api.Hist{Neg: side(3, 5)}, api.OK},

		{api.Hist{Pos: side(1, 1, 1)}, api.Hist{Pos: side(1, 1, 1)}, api.Hist{}, api.OK},
		{api.Hist{Scale: 1, Pos: side(2, 1, 1)}, api.Hist{Pos: side(1, 2)}, api.Hist{}, api.OK},

		{api.Hist{Scale: 1, Pos: side(2, 5)}, api.Hist{Scale: 1, Pos: side(3, 1)}, api.Hist{}, api.ErrNone},
	} {
		if h, e := fold.Sub(c.a, c.b); e != c.e || !hist.Same(h, c.want) {
			t.Errorf("%d: %v %d", i, h, e)
		}
	}
}

// P9.4.
func TestSum(t *testing.T) {
	if h, e := fold.Sum(nil); e != api.OK || !hist.Same(h, api.Hist{Scale: 20}) {
		t.Errorf("%v %d", h, e)
	}
	one := api.Hist{Scale: 2, Pos: side(4, 1)}
	if h, e := fold.Sum([]api.Hist{one}); e != api.OK || !hist.Same(h, one) {
		t.Errorf("%v %d", h, e)
	}
	if h, e := fold.Sum([]api.Hist{one, {Scale: 1, Zero: 3}, one}); e != api.OK || !hist.Same(h, api.Hist{Scale: 1, Zero: 3, Pos: side(2, 2)}) {
		t.Errorf("%v %d", h, e)
	}
	if h, e := fold.Sum([]api.Hist{one, {Scale: 2, Pos: side(500, 1)}, bad()}); e != api.ErrArg || !hist.Same(h, api.Hist{}) {
		t.Errorf("%v %d", h, e)
	}
	if _, e := fold.Sum([]api.Hist{one, bad(), {Scale: 2, Pos: side(500, 1)}}); e != api.ErrForm {
		t.Errorf("%d", e)
	}
	if !fold.Empty(api.Hist{Scale: 4}) || fold.Empty(api.Hist{Zero: 1}) || fold.Empty(api.Hist{Pos: side(0, 1)}) || fold.Empty(api.Hist{Neg: side(0, 0)}) {
		t.Error("Empty")
	}
}

// P9.5, and that answers are right.
func TestLaws(t *testing.T) {
	rnd := rand.New(rand.NewSource(1))
	for range 3000 {
		a, b, c := some(rnd), some(rnd), some(rnd)
		ab, e := fold.Merge(a, b)
		ba, f := fold.Merge(b, a)
		if e != f || !hist.Same(ab, ba) || e == api.OK && hist.Check(ab) != api.OK {
			t.Fatalf("%v, %v: %v %v", a, b, ab, ba)
		}
		if e != api.OK {
			continue
		}
		left, g := fold.Sub(ab, b)
		x, _, _ := fold.Level(a, b)
		if g != api.OK || !hist.Same(left, x) || hist.Check(left) != api.OK {
			t.Fatalf("%v less %v: %v %d", ab, b, left, g)
		}
		s, e1 := fold.Sum([]api.Hist{a, b, c})
		u, e2 := fold.Sum([]api.Hist{c, a, b})
		if e1 == api.OK && e2 == api.OK && !hist.Same(s, u) {
			t.Fatalf("%v, %v, %v", a, b, c)
		}
	}
}

// P9.5: memory.
func TestMemory(t *testing.T) {
	a, b := api.Hist{Pos: side(1, 1)}, api.Hist{Neg: side(1, 1)}
	m, _ := fold.Merge(a, b)
	d, _ := fold.Sub(a, api.Hist{})
	s, _ := fold.Sum([]api.Hist{a})
	x, y, _ := fold.Level(a, b)
	m.Pos.Counts[0], m.Neg.Counts[0], d.Pos.Counts[0], s.Pos.Counts[0], x.Pos.Counts[0], y.Neg.Counts[0] = 9, 9, 9, 9, 9, 9
	if a.Pos.Counts[0] != 1 || b.Neg.Counts[0] != 1 {
		t.Error("an answer shares memory")
	}
}
