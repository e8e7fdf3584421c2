package histbits_test

import (
	"bytes"
	"math"
	"math/rand"
	"strings"
	"testing"

	"limnograph/api"
	"limnograph/bitio"
	"limnograph/hist"
	"limnograph/histbits"
)

// side is a side from an index on.
func side(offset int, counts ...uint64) api.Side {
	return api.Side{Offset: offset, Counts: counts}
}

// told is a writer's bits as a text.
func told(w *bitio.Writer) string {
	s := ""
	b := w.Bytes()
	for i := range w.Len() {
		s += string('0' + rune(b[i/8]>>(7-i%8)&1))
	}
	return s
}

// reader is a reader of bits that a text tells.
func reader(s string) *bitio.Reader {
	w := bitio.NewWriter()
	for _, c := range strings.ReplaceAll(s, " ", "") {
		w.Put(uint64(c-'0'), 1)
	}
	r, _ := bitio.NewReader(w.Bytes(), w.Len())
	return r
}

// row is a row of histograms.
func row(l ...api.Hist) *histbits.Row {
	x, w := histbits.NewRow(), bitio.NewWriter()
	for _, h := range l {
		x.Put(w, h)
	}
	return x
}

// P10.1.
func TestPut(t *testing.T) {
	w, x := bitio.NewWriter(), histbits.NewRow()
	if x.Len() != 0 {
		t.Error("a new row has histograms")
	}
	x.Put(w, api.Hist{})
	if told(w) != "0"+"01010"+"00000000"+"00000000"+"00" {
		t.Errorf("%s", told(w))
	}
	w = bitio.NewWriter()
	if x.Put(w, api.Hist{}); told(w) != "100" || x.Len() != 2 {
		t.Errorf("%s", told(w))
	}
	w = bitio.NewWriter()
	x.Put(w, api.Hist{Scale: 20, Zero: 1, Pos: side(-1, 2, 3), Neg: side(0, 4)})
	if told(w) != "0"+"11110"+"00000010"+"010000001"+"00000001"+"00"+"010000001"+"010000010"+"010000011"+"010000100" {
		t.Errorf("%s", told(w))
	}
	w = bitio.NewWriter()
	x.Put(w, api.Hist{Scale: 20, Zero: 0, Pos: side(-1, 2, 4), Neg: side(0, 3)})
	if told(w) != "1"+"010000001"+"00"+"010000010"+"010000001" {
		t.Errorf("%s", told(w))
	}
	w = bitio.NewWriter()
	if e := x.Put(w, api.Hist{Pos: side(0, 0)}); e != api.ErrForm || w.Len() != 0 || x.Len() != 4 {
		t.Errorf("%d %s", e, told(w))
	}
}

// P10.2.
func TestGet(t *testing.T) {
	empty, one := api.Hist{}, api.Hist{Pos: side(5, 1)}
	for i, c := range []struct {
		ahead []api.Hist
		bits  string
		want  api.Hist
		e     api.Errno
	}{
		{nil, "", empty, api.ErrShort},
		{nil, "1", empty, api.ErrForm},
		{nil, "0", empty, api.ErrShort},
		{nil, "0 0101", empty, api.ErrShort},
		{nil, "0 01010 0000000", empty, api.ErrShort},

		{nil, "0 01010 00000000 00000000 00", empty, api.OK},
		{nil, "0 01010 00000000 00000000 0", empty, api.ErrShort},
		{nil, "0 11111 00000000 00000000 00", empty, api.ErrArg},
		{nil, "0 01010 10100001", empty, api.ErrLarge},

		{nil, "0 01010 10100000", empty, api.ErrShort},
		{nil, "0 01010 00000000 11111111", empty, api.ErrLarge},
		{nil, "0 01010 00000001 01 0000000", empty, api.ErrForm},
		{nil, "0 01010 00000001 01 0001010 00000000 00 01 0000001", one, api.OK},

		{nil, "0 01010 00000001 01 0001010 00000000 00 00", empty, api.ErrForm},
		{nil, "0 01010 00000001 01 0001010 00000000 00 01 0000000", empty, api.ErrForm},
		{nil, "0 01010 00000001 11" + strings.Repeat("1", 64) + "00000000 00 01 0000001", empty, api.ErrArg},

		{[]api.Hist{empty}, "100", empty, api.OK},
		{[]api.Hist{empty}, "0 01010 00000000 00000000 00", empty, api.ErrForm},
		{[]api.Hist{empty}, "0 01001 00000000 00000000 00", api.Hist{Scale: -1}, api.OK},

		{[]api.Hist{one}, "1 00 00", one, api.OK},
		{[]api.Hist{one}, "1 00 01 0000001", empty, api.ErrForm},
		{[]api.Hist{one}, "1 00 0", empty, api.ErrShort},
		{[]api.Hist{one}, "1 00 01 0000000", empty, api.ErrForm},
		{[]api.Hist{one}, "1 01 0000010 01 0000010", api.Hist{Zero: 1, Pos: side(5, 2)}, api.OK},

		{[]api.Hist{one}, "0 01010 00000001 01 0001010 00000000 00 00", empty, api.ErrForm},
		{[]api.Hist{one}, "1 01 0000001 00", empty, api.ErrLarge},
	} {
		x, r := row(c.ahead...), reader(c.bits)
		n := r.Left()
		h, e := x.Get(r)
		if e != c.e || !hist.Same(h, c.want) {
			t.Errorf("%d, %s: %v %d", i, c.bits, h, e)
		}
		if e != api.OK && (r.Left() != n || x.Len() != len(c.ahead)) || e == api.OK && (r.Left() != 0 || x.Len() != len(c.ahead)+1) {
			t.Errorf("%d: %d left, %d", i, r.Left(), x.Len())
		}
	}
}

// some are right histograms, some of one shape with the one ahead.
func some(rnd *rand.Rand, n int) []api.Hist {
	l := []api.Hist{}
	for len(l) < n {
		h := api.Hist{Scale: rnd.Intn(31) - 10, Zero: uint64(rnd.Intn(3))}
		for _, s := range []*api.Side{&h.Pos, &h.Neg} {
			k := rnd.Intn(5)
			for range k {
				s.Counts = append(s.Counts, rnd.Uint64()>>rnd.Intn(60)>>4)
			}
			if k > 0 {
				s.Offset = rnd.Intn(3000) - 1500
				s.Counts[0] |= 1
				s.Counts[k-1] |= 1
			}
		}
		l = append(l, h)
		for range rnd.Intn(4) {
			h = hist.Clone(h)
			h.Zero += uint64(rnd.Intn(3))
			for i := range h.Pos.Counts {
				h.Pos.Counts[i] = max(2, h.Pos.Counts[i]) - uint64(rnd.Intn(2))
			}
			l = append(l, h)
		}
	}
	return l
}

// P10.3: what is put is got as it was, and got bits are put as they were.
func TestRoundTrip(t *testing.T) {
	rnd := rand.New(rand.NewSource(1))
	for range 500 {
		l := some(rnd, rnd.Intn(10))
		w, x := bitio.NewWriter(), histbits.NewRow()
		for _, h := range l {
			if e := x.Put(w, h); e != api.OK {
				t.Fatalf("%v: %d", h, e)
			}
		}
		r, _ := bitio.NewReader(w.Bytes(), w.Len())
		y := histbits.NewRow()
		for _, h := range l {
			if g, e := y.Get(r); e != api.OK || !hist.Same(g, h) {
				t.Fatalf("%v: %v %d", h, g, e)
			}
		}
		if r.Left() != 0 || y.Len() != len(l) {
			t.Fatal("bits are left")
		}
		b := w.Bytes()
		for range 20 {
			if len(b) > 0 {
				b[rnd.Intn(len(b))] ^= 1 << rnd.Intn(8)
			}
			r, _ := bitio.NewReader(b, 8*len(b))
			w, y, z := bitio.NewWriter(), histbits.NewRow(), histbits.NewRow()
			for {
				h, e := y.Get(r)
				if e != api.OK {
					break
				}
				z.Put(w, h)
			}
			again := bitio.NewWriter()
			if again.PutBits(b, r.At()); w.Len() != r.At() || !bytes.Equal(again.Bytes(), w.Bytes()) {
				t.Fatalf("%x", b)
			}
		}
	}
	big := api.Hist{Zero: math.MaxUint64}
	w, x, y := bitio.NewWriter(), histbits.NewRow(), histbits.NewRow()
	x.Put(w, big)
	x.Put(w, api.Hist{Zero: 1})
	r, _ := bitio.NewReader(w.Bytes(), w.Len())
	y.Get(r)
	if h, e := y.Get(r); e != api.OK || h.Zero != 1 {
		t.Errorf("%v %d", h, e)
	}
}

// P10.3: Clone, and memory.
func TestClone(t *testing.T) {
	h := api.Hist{Pos: side(0, 5)}
	x := row(h)
	y := x.Clone()
	h.Pos.Counts[0] = 9
	x.Put(bitio.NewWriter(), api.Hist{Scale: 3})
	w := bitio.NewWriter()
	if y.Put(w, api.Hist{Pos: side(0, 5)}); told(w) != "10000" || y.Len() != 2 || x.Len() != 2 {
		t.Errorf("%s", told(w))
	}
	z := row(api.Hist{Pos: side(0, 5)})
	g, _ := z.Get(reader("10000"))
	g.Pos.Counts[0] = 77
	if g, e := z.Get(reader("10000")); e != api.OK || g.Pos.Counts[0] != 5 {
		t.Error("what is answered is kept")
	}
}
