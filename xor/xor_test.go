package xor_test

import (
	"bytes"
	"math"
	"math/rand"
	"strconv"
	"strings"
	"testing"

	"limnograph/api"
	"limnograph/bitio"
	"limnograph/xor"
)

// told is a writer's bits as a text.
func told(w *bitio.Writer) string {
	s := ""
	b := w.Bytes()
	for i := range w.Len() {
		s += string('0' + rune(b[i/8]>>(7-i%8)&1))
	}
	return s
}

// reader is a reader of bits that a text tells.
func reader(s string) *bitio.Reader {
	w := bitio.NewWriter()
	for _, c := range strings.ReplaceAll(s, " ", "") {
		w.Put(uint64(c-'0'), 1)
	}
	r, _ := bitio.NewReader(w.Bytes(), w.Len())
	return r
}

// row is a row of floats.
func row(l ...uint64) *xor.Row {
	x, w := xor.NewRow(), bitio.NewWriter()
	for _, v := range l {
		x.Put(w, v)
	}
	return x
}

// goesOn tells whether one row goes on as another one.
func goesOn(x, y *xor.Row) bool {
	a, b := bitio.NewWriter(), bitio.NewWriter()
	for _, v := range []uint64{1, 3, 1 << 63, 9 << 60} {
		x.Put(a, v)
		y.Put(b, v)
	}
	return told(a) == told(b)
}

// P7.1: the ways.
func TestPut(t *testing.T) {
	for _, c := range []struct {
		ahead []uint64
		v     uint64
		bits  string
	}{
		{nil, 0x8000000000000001, "1" + strings.Repeat("0", 62) + "1"},
		{[]uint64{7}, 7, "0"},
		{[]uint64{0x3ff0000000000000}, 0x4000000000000000, "11" + "00001" + "001010" + strings.Repeat("1", 11)},

		{[]uint64{0}, 1, "11" + "11111" + "100000" + strings.Repeat("0", 32) + "1"},
		{[]uint64{0}, math.MaxUint64, "11" + "00000" + "111111" + strings.Repeat("1", 64)},
		{[]uint64{0}, 1 << 63, "11" + "00000" + "000000" + "1"},

		{[]uint64{0, 0xf0}, 0xf1, "11" + "11111" + "100000" + strings.Repeat("0", 32) + "1"},
		{[]uint64{0, 0xf0}, 0xe0, "10" + strings.Repeat("0", 28) + "1"},

		{[]uint64{0, 0xf000000000000000}, 0xf000000000000000, "0"},
		{[]uint64{0, 0xf000000000000000}, 0x9000000000000000, "10" + "0110"},
		{[]uint64{0, 0xf000000000000000, 0xf000000000000000}, 0x9000000000000000, "10" + "0110"},
	} {
		x, w := row(c.ahead...), bitio.NewWriter()
		x.Put(w, c.v)
		if told(w) != c.bits || x.Len() != len(c.ahead)+1 {
			t.Errorf("%x, %x: %s", c.ahead, c.v, told(w))
		}
	}
}

// P7.1: Get, and its errors.
func TestGet(t *testing.T) {
	wide := []uint64{0, 0xf000000000000000}
	for _, c := range []struct {
		ahead []uint64
		bits  string
		v     uint64
		e     api.Errno
	}{
		{nil, strings.Repeat("1", 63), 0, api.ErrShort},
		{nil, strings.Repeat("1", 64), math.MaxUint64, api.OK},
		{[]uint64{7}, "", 0, api.ErrShort},
		{[]uint64{7}, "0", 7, api.OK},

		{[]uint64{7}, "1", 0, api.ErrShort},
		{[]uint64{7}, "10", 0, api.ErrForm},
		{[]uint64{7}, "11 0000000000", 0, api.ErrShort},
		{[]uint64{7}, "11 00001 111111", 0, api.ErrForm},

		{[]uint64{7}, "11 11111 100001", 0, api.ErrForm},
		{[]uint64{7}, "11 00000 000001 1", 0, api.ErrShort},
		{[]uint64{7}, "11 00000 000001 00", 0, api.ErrForm},
		{[]uint64{0}, "11 00000 000001 11", 3 << 62, api.OK},

		{[]uint64{0}, "11 00000 000001 10", 0, api.ErrForm},
		{[]uint64{0}, "11 00000 000001 01", 0, api.ErrForm},
		{[]uint64{0}, "11 11111 000001 01", 1 << 31, api.OK},
		{[]uint64{0}, "11 11110 000001 01", 0, api.ErrForm},
		{[]uint64{0}, "11 11111 000010 011", 3 << 30, api.OK},

		{wide, "10 0000", 0, api.ErrForm},
		{wide, "10 000", 0, api.ErrShort},
		{wide, "10 0110", 0x9000000000000000, api.OK},
		{wide, "11 00000 000001 11", 0, api.ErrForm},
		{wide, "11 00000 000100 10001", 0x7800000000000000, api.OK},
	} {
		x, r := row(c.ahead...), reader(c.bits)
		n := r.Left()
		v, e := x.Get(r)
		if v != c.v || e != c.e {
			t.Errorf("%x, %s: %x %d", c.ahead, c.bits, v, e)
		}
		size := x.Len()
		if e != api.OK && (size != len(c.ahead) || r.Left() != n || !goesOn(x, row(c.ahead...))) || e == api.OK && (size != len(c.ahead)+1 || r.Left() != 0) {
			t.Errorf("%x, %s: %d, %d left", c.ahead, c.bits, x.Len(), r.Left())
		}
	}
}

// some are floats of all sorts, some near the one ahead.
func some(rnd *rand.Rand, n int) []uint64 {
	l, v := []uint64{}, uint64(0)
	for range n {
		switch rnd.Intn(5) {
		case 0:
			v = rnd.Uint64()
		case 1:
			v = math.Float64bits(float64(rnd.Intn(100)))
		case 2:
			v ^= 1 << rnd.Intn(64)
		case 3:
			v ^= rnd.Uint64() >> rnd.Intn(64) << rnd.Intn(64)
		}
		l = append(l, v)
	}
	return l
}

// P7.2, P7.3.
func TestRoundTrip(t *testing.T) {
	rnd := rand.New(rand.NewSource(1))
	for range 500 {
		l := some(rnd, rnd.Intn(30))
		w, x := bitio.NewWriter(), xor.NewRow()
		for _, v := range l {
			x.Put(w, v)
		}
		if xor.Cost(l) != w.Len() {
			t.Fatalf("Cost: %d, not %d", xor.Cost(l), w.Len())
		}
		r, _ := bitio.NewReader(w.Bytes(), w.Len())
		y := xor.NewRow()
		for _, v := range l {
			if g, e := y.Get(r); g != v || e != api.OK {
				t.Fatalf("%x: %x %d", v, g, e)
			}
		}
		if r.Left() != 0 {
			t.Fatal("bits are left")
		}
	}
	taken := 0
	for range 5000 {
		b := make([]byte, 9+rnd.Intn(20))
		rnd.Read(b)
		r, _ := bitio.NewReader(b, 8*len(b))
		w, x, y := bitio.NewWriter(), xor.NewRow(), xor.NewRow()
		for {
			v, e := x.Get(r)
			if e != api.OK {
				break
			}
			taken++
			y.Put(w, v)
		}
		again := bitio.NewWriter()
		if again.PutBits(b, r.At()); w.Len() != r.At() || !bytes.Equal(again.Bytes(), w.Bytes()) {
			t.Fatalf("%x", b)
		}
	}
	if taken < 5000 {
		t.Error(strconv.Itoa(taken))
	}
	if xor.Cost(nil) != 0 || xor.Cost([]uint64{5}) != 64 || xor.Cost([]uint64{5, 5}) != 65 || xor.Cost([]uint64{0x3ff0000000000000, 0x4000000000000000}) != 64+13+11 {
		t.Error("Cost")
	}
}

// P7.1: Clone.
func TestClone(t *testing.T) {
	x := row(0, 0xf000000000000000)
	y := x.Clone()
	w := bitio.NewWriter()
	x.Put(w, 1)
	a := bitio.NewWriter()
	if y.Put(a, 0x9000000000000000); told(a) != "100110" || y.Len() != 3 || x.Len() != 3 {
		t.Errorf("%s", told(a))
	}
}
