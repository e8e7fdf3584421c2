package bitio_test

import (
	"bytes"
	"math"
	"math/rand"
	"testing"

	"limnograph/api"
	"limnograph/bitio"
)

// bitsOf is the bits of bytes, one a number.
func bitsOf(b []byte, n int) []int {
	l := []int{}
	for i := range n {
		l = append(l, int(b[i/8]>>(7-i%8)&1))
	}
	return l
}

// filled is bits as bytes.
func filled(l []int) []byte {
	b := make([]byte, (len(l)+7)/8)
	for i, v := range l {
		b[i/8] |= byte(v << (7 - i%8))
	}
	return b
}

// P1.1: Put.
func TestPut(t *testing.T) {
	for _, c := range []struct {
		v  uint64
		n  int
		ok bool
	}{{0, 0, true}, {1, 0, false}, {0, -1, false}, {0, 65, false}, {1, 1, true}, {2, 1, false}, {255, 8, true}, {256, 8, false},
		{1<<63 - 1, 63, true}, {1 << 63, 63, false}, {math.MaxUint64, 64, true}, {0, math.MaxInt, false}, {0, math.MinInt, false}} {
		w := bitio.NewWriter()
		if ok := w.Put(c.v, c.n); ok != c.ok {
			t.Errorf("Put(%d, %d): %v", c.v, c.n, ok)
		}
		if want := c.n; !c.ok && w.Len() != 0 || c.ok && w.Len() != want {
			t.Errorf("Put(%d, %d): Len %d", c.v, c.n, w.Len())
		}
	}
	w := bitio.NewWriter()
	if w.Len() != 0 || len(w.Bytes()) != 0 {
		t.Error("a new writer has bits")
	}
	w.Put(5, 3)
	w.Put(1, 2)
	if w.Len() != 5 || !bytes.Equal(w.Bytes(), []byte{0xa8}) {
		t.Errorf("%x", w.Bytes())
	}
}

// P1.1: PutBits.
func TestPutBits(t *testing.T) {
	w := bitio.NewWriter()
	if w.PutBits([]byte{1}, 9) || w.PutBits([]byte{1}, -1) || w.PutBits(nil, 1) || w.PutBits([]byte{1}, math.MaxInt) || w.Len() != 0 {
		t.Error("a wrong count is taken")
	}
	if !w.PutBits(nil, 0) || !w.PutBits([]byte{0xff, 0xff}, 3) || !w.PutBits([]byte{0x55, 0xaa, 0xff}, 13) {
		t.Error("a right count is refused")
	}
	if w.Len() != 16 || !bytes.Equal(w.Bytes(), []byte{0xea, 0xb5}) {
		t.Errorf("%x", w.Bytes())
	}
}

// P1.1: all calls of a writer, against a list of bits.
func TestWriterModel(t *testing.T) {
	rnd := rand.New(rand.NewSource(1))
	for range 300 {
		w, model := bitio.NewWriter(), []int{}
		for range 40 {
			switch rnd.Intn(3) {
			case 0:
				n := rnd.Intn(65)
				v := rnd.Uint64() >> 1 >> (63 - min(n, 63))
				if n == 0 {
					v = 0
				}
				if !w.Put(v, n) {
					t.Fatalf("Put(%d, %d)", v, n)
				}
				for i := n - 1; i >= 0; i-- {
					model = append(model, int(v>>i&1))
				}
			case 1:
				b := make([]byte, rnd.Intn(6))
				rnd.Read(b)
				n := rnd.Intn(8*len(b) + 1)
				if !w.PutBits(b, n) {
					t.Fatalf("PutBits(%x, %d)", b, n)
				}
				model = append(model, bitsOf(b, n)...)
			case 2:
				n := len(model) - rnd.Intn(min(len(model), 20)+1)
				if !w.Cut(n) || w.Cut(n+1) {
					t.Fatalf("Cut(%d)", n)
				}
				model = model[:n]
			}
			if w.Len() != len(model) || !bytes.Equal(w.Bytes(), filled(model)) {
				t.Fatalf("%x, not %x", w.Bytes(), filled(model))
			}
		}
	}
}

// P1.1: Cut.
func TestCut(t *testing.T) {
	w := bitio.NewWriter()
	w.Put(0xfff, 12)
	if w.Cut(-1) || w.Cut(13) || w.Cut(math.MinInt) || w.Len() != 12 {
		t.Error("a wrong count is taken")
	}
	if !w.Cut(12) || !w.Cut(9) || !bytes.Equal(w.Bytes(), []byte{0xff, 0x80}) {
		t.Errorf("%x", w.Bytes())
	}
	if !w.Put(0, 3) || !bytes.Equal(w.Bytes(), []byte{0xff, 0x80}) || !w.Cut(0) || w.Len() != 0 || len(w.Bytes()) != 0 {
		t.Errorf("%x", w.Bytes())
	}
}

// P1.2.
func TestNewReader(t *testing.T) {
	for _, c := range []struct {
		b []byte
		n int
		e api.Errno
	}{{nil, 0, api.OK}, {[]byte{}, 0, api.OK}, {nil, -1, api.ErrArg}, {[]byte{1}, math.MinInt, api.ErrArg}, {nil, 1, api.ErrShort},
		{[]byte{0}, 9, api.ErrShort}, {[]byte{1}, math.MaxInt, api.ErrShort}, {[]byte{0}, 0, api.ErrForm}, {[]byte{0xff}, 8, api.OK},
		{[]byte{0xff, 0}, 8, api.ErrForm}, {[]byte{0xff, 0x80}, 9, api.OK}, {[]byte{0xff, 0xc0}, 9, api.ErrForm},
		{[]byte{0xa8}, 5, api.OK}, {[]byte{0xa9}, 5, api.ErrForm}, {[]byte{0xac}, 5, api.ErrForm}, {[]byte{0xa8, 0, 0}, 5, api.ErrForm}} {
		r, e := bitio.NewReader(c.b, c.n)
		if e != c.e || (r != nil) != (e == api.OK) {
			t.Errorf("NewReader(%x, %d): %d", c.b, c.n, e)
		}
	}
}

// P1.3.
func TestReader(t *testing.T) {
	r, _ := bitio.NewReader([]byte{0xa8}, 5)
	if v, ok := r.Take(3); v != 5 || !ok {
		t.Errorf("Take(3): %d %v", v, ok)
	}
	for _, n := range []int{3, -1, 65, math.MaxInt, math.MinInt} {
		if v, ok := r.Take(n); v != 0 || ok {
			t.Errorf("Take(%d): %d %v", n, v, ok)
		}
		if v, ok := r.Look(n); v != 0 || ok {
			t.Errorf("Look(%d): %d %v", n, v, ok)
		}
		if r.Skip(n) || r.At() != 3 || r.Left() != 2 {
			t.Errorf("Skip(%d)", n)
		}
	}
	if v, ok := r.Look(2); v != 1 || !ok || r.At() != 3 {
		t.Errorf("Look(2): %d %v", v, ok)
	}
	if v, ok := r.Take(2); v != 1 || !ok || r.At() != 5 || r.Left() != 0 {
		t.Errorf("Take(2): %d %v", v, ok)
	}
	if v, ok := r.Take(0); v != 0 || !ok || !r.Skip(0) || r.Skip(1) {
		t.Error("at the end")
	}
	long := bytes.Repeat([]byte{0xff}, 20)
	r, _ = bitio.NewReader(long, 160)
	if !r.Skip(100) || r.At() != 100 || r.Left() != 60 {
		t.Error("Skip of more than 64")
	}
	if _, ok := r.Take(61); ok {
		t.Error("Take of more than is left")
	}
}

// P1.3: what is taken is what was put, whatever the sizes.
func TestTakeModel(t *testing.T) {
	rnd := rand.New(rand.NewSource(2))
	for range 300 {
		b := make([]byte, rnd.Intn(40))
		rnd.Read(b)
		r, _ := bitio.NewReader(b, 8*len(b))
		model := bitsOf(b, 8*len(b))
		for range 30 {
			n := rnd.Intn(65)
			v, ok := r.Look(n)
			if ok != (n <= len(model)) {
				t.Fatalf("Look(%d) with %d", n, len(model))
			}
			if !ok {
				continue
			}
			want := uint64(0)
			for _, x := range model[:n] {
				want = want<<1 | uint64(x)
			}
			v2, _ := r.Take(n)
			if v != want || v2 != want {
				t.Fatalf("%d %d, not %d", v, v2, want)
			}
			model = model[n:]
			if r.Left() != len(model) || r.At()+r.Left() != 8*len(b) {
				t.Fatal("Left")
			}
		}
	}
}

// P1.4.
func TestMemory(t *testing.T) {
	w := bitio.NewWriter()
	in := []byte{0x12, 0x34}
	w.PutBits(in, 16)
	in[0] = 0xff
	out := w.Bytes()
	out[1] = 0xff
	if out = append(out, 1); !bytes.Equal(w.Bytes(), []byte{0x12, 0x34}) {
		t.Errorf("%x", w.Bytes())
	}
	in = []byte{0x12, 0x34, 0x56}
	r, _ := bitio.NewReader(in[:2], 16)
	in[0], in[1] = 0, 0
	if v, _ := r.Take(16); v != 0x1234 || in[2] != 0x56 {
		t.Errorf("%x", v)
	}
}
