package num_test

import (
	"math"
	"math/rand"
	"testing"

	"limnograph/num"
)

const (
	one  = 0x3ff0000000000000
	two  = 0x4000000000000000
	inf  = 0x7ff0000000000000
	minf = 0xfff0000000000000
	nan  = 0x7ff8000000000001
	zero = 0
	mnul = 1 << 63
)

// some are floats of all sorts.
func some() []uint64 {
	l := []uint64{
		one,
		two,
		inf,
		minf,
		nan,
		zero,
		mnul,
		1,
		mnul | 1,
		0x7ff0000000000001,
		0xfff8000000000000,
		math.MaxUint64,
		0x7fefffffffffffff,
		0xffefffffffffffff,
		one | mnul,
		0x000fffffffffffff,
		0x0010000000000000,
	}
	rnd := rand.New(rand.NewSource(1))
	for range 60 {
		l = append(l, rnd.Uint64(), math.Float64bits(rnd.NormFloat64()))
	}
	return l
}

// P5.1: Odd, Finite, Canon.
func TestSorts(t *testing.T) {
	for _, a := range some() {
		f := math.Float64frombits(a)
		if num.Odd(a) != math.IsNaN(f) || num.Finite(a) != !(math.IsNaN(f) || math.IsInf(f, 0)) {
			t.Errorf("%x: %v %v", a, num.Odd(a), num.Finite(a))
		}
		if want := a; num.Odd(a) && num.Canon(a) != nan || !num.Odd(a) && num.Canon(a) != want {
			t.Errorf("%x: %x", a, num.Canon(a))
		}
	}
}

// P5.1: Add, Sub, Less.
func TestReckon(t *testing.T) {
	for _, c := range []struct{ a, b, sum, dif uint64 }{
		{one, one, two, zero},
		{inf, inf, inf, nan},
		{inf, minf, nan, inf},
		{nan, one, nan, nan},
		{0xfff0000000000001, one, nan, nan},

		{mnul, mnul, mnul, zero},
		{mnul, zero, zero, mnul},
		{0x7fefffffffffffff, 0x7fefffffffffffff, inf, zero},
		{one, 0x3ca0000000000000, one, 0x3fefffffffffffff},
		{1, 1, 2, 0},
	} {
		if num.Add(c.a, c.b) != c.sum || num.Sub(c.a, c.b) != c.dif {
			t.Errorf("%x, %x: %x, %x", c.a, c.b, num.Add(c.a, c.b), num.Sub(c.a, c.b))
		}
	}
	for _, c := range []struct {
		a, b uint64
		less bool
	}{
		{one, two, true},
		{two, one, false},
		{one, one, false},
		{mnul, zero, false},
		{zero, mnul, false},
		{nan, one, false},
		{one, nan, false},
		{minf, inf, true},
		{mnul | 1, zero, true},
	} {
		if num.Less(c.a, c.b) != c.less {
			t.Errorf("Less(%x, %x)", c.a, c.b)
		}
	}
}

// P5.2.
func TestPhasors(t *testing.T) {
	l := some()
	for i, a := range l {
		b, c, d := l[(i+1)%len(l)], l[(i+5)%len(l)], l[(i+11)%len(l)]
		if re, im := num.AddPhasor(a, b, c, d); re != num.Add(a, c) || im != num.Add(b, d) {
			t.Errorf("AddPhasor(%x, %x, %x, %x): %x, %x", a, b, c, d, re, im)
		}
		if re, im := num.SubPhasor(a, b, c, d); re != num.Sub(a, c) || im != num.Sub(b, d) {
			t.Errorf("SubPhasor(%x, %x, %x, %x): %x, %x", a, b, c, d, re, im)
		}
		if re, im := num.Turn(a, b); re != num.Canon(b^mnul) || im != num.Canon(a) {
			t.Errorf("Turn(%x, %x): %x, %x", a, b, re, im)
		}
	}
	if re, im := num.Turn(zero, inf); re != minf || im != zero {
		t.Errorf("%x, %x", re, im)
	}
	if re, im := num.Turn(0xfff8000000000001, 0xfff8000000000001); re != nan || im != nan {
		t.Errorf("%x, %x", re, im)
	}
	if re, im := num.Turn(one, zero); re != mnul || im != one {
		t.Errorf("%x, %x", re, im)
	}
}

// P5.3.
func TestRank(t *testing.T) {
	for _, a := range some() {
		for _, b := range some() {
			nulls := a&^mnul == 0 && b&^mnul == 0
			if !num.Odd(a) && !num.Odd(b) && !nulls && num.Less(a, b) != (num.Rank(a) < num.Rank(b)) {
				t.Errorf("Rank of %x and %x: %x, %x", a, b, num.Rank(a), num.Rank(b))
			}
		}
		if num.Odd(a) != (num.Rank(a) == math.MaxUint64) {
			t.Errorf("Rank(%x): %x", a, num.Rank(a))
		}
	}
	if num.Rank(mnul) >= num.Rank(zero) || num.Rank(mnul|1) >= num.Rank(mnul) || num.Rank(zero) >= num.Rank(1) {
		t.Error("around 0")
	}
}
