package vary_test

import (
	"bytes"
	"math"
	"math/rand"
	"strings"
	"testing"

	"limnograph/api"
	"limnograph/bitio"
	"limnograph/vary"
)

// told is a writer's bits as a text.
func told(w *bitio.Writer) string {
	s := ""
	b := w.Bytes()
	for i := range w.Len() {
		s += string('0' + rune(b[i/8]>>(7-i%8)&1))
	}
	return s
}

// reader is a reader of bits that a text tells.
func reader(s string) *bitio.Reader {
	w := bitio.NewWriter()
	for _, c := range strings.ReplaceAll(s, " ", "") {
		w.Put(uint64(c-'0'), 1)
	}
	r, _ := bitio.NewReader(w.Bytes(), w.Len())
	return r
}

// of is a reader of what a writer has.
func of(w *bitio.Writer) *bitio.Reader {
	r, _ := bitio.NewReader(w.Bytes(), w.Len())
	return r
}

// P6.1: the forms.
func TestPut(t *testing.T) {
	for _, c := range []struct {
		v    uint64
		bits string
	}{{0, "00"}, {1, "010000001"}, {5, "010000101"}, {127, "011111111"}, {128, "10" + "00000000000010000000"}, {1<<20 - 1, "10" + strings.Repeat("1", 20)},
		{1 << 20, "11" + strings.Repeat("0", 43) + "1" + strings.Repeat("0", 20)}, {math.MaxUint64, "11" + strings.Repeat("1", 64)}} {
		w := bitio.NewWriter()
		if vary.Put(w, c.v); told(w) != c.bits {
			t.Errorf("%d: %s", c.v, told(w))
		}
	}
	w := bitio.NewWriter()
	vary.PutInt(w, -1)
	vary.PutInt(w, 10)
	if told(w) != "010000001"+"010010100" {
		t.Errorf("%s", told(w))
	}
}

// P6.1: the errors.
func TestGet(t *testing.T) {
	for _, c := range []struct {
		bits string
		v    uint64
		e    api.Errno
	}{
		{"00", 0, api.OK},
		{"", 0, api.ErrShort},
		{"0", 0, api.ErrShort},
		{"01 000000", 0, api.ErrShort},
		{"01 0000000", 0, api.ErrForm},
		{"01 0000001", 1, api.OK},

		{"10 00000000000001111111", 0, api.ErrForm},
		{"10 00000000000010000000", 128, api.OK},
		{"10 0000000000001000000", 0, api.ErrShort},

		{"11" + strings.Repeat("0", 44) + strings.Repeat("1", 20), 0, api.ErrForm},
		{"11" + strings.Repeat("0", 43) + strings.Repeat("1", 21), 1<<21 - 1, api.OK},
		{"11" + strings.Repeat("1", 63), 0, api.ErrShort},
	} {
		r, i := reader(c.bits), reader(c.bits)
		n := r.Left()
		v, e := vary.Get(r)
		s, f := vary.GetInt(i)
		if v != c.v || e != c.e || f != c.e {
			t.Errorf("%s: %d %d", c.bits, v, e)
		}
		if e != api.OK && (r.Left() != n || i.Left() != n || s != 0) || e == api.OK && (r.Left() != 0 || i.Left() != 0) {
			t.Errorf("%s: %d are left", c.bits, r.Left())
		}
	}
}

// P6.2: the example, and each way.
func TestRow(t *testing.T) {
	w, x := bitio.NewWriter(), vary.NewRow()
	if x.Len() != 0 {
		t.Error("a new row has numbers")
	}
	for _, v := range []int{10, 20, 30, 31} {
		x.Put(w, v)
	}
	if told(w) != "010010100"+"010010100"+"0"+"10110111" || x.Len() != 4 {
		t.Errorf("%s", told(w))
	}
	for _, c := range []struct {
		v    int
		bits string
	}{
		{0, "0"},
		{1, "10000001"},
		{31, "10011111"},
		{-32, "10100000"},
		{32, "1100000100000"},
		{-33, "1101111011111"},
		{511, "1100111111111"},
		{-512, "1101000000000"},

		{512, "1110" + "0000001000000000"},
		{-513, "1110" + "1111110111111111"},
		{32767, "1110" + "0111111111111111"},
		{-32768, "1110" + "1000000000000000"},

		{32768, "1111" + strings.Repeat("0", 48) + "1000000000000000"},
		{-32769, "1111" + strings.Repeat("1", 48) + "0111111111111111"},
		{math.MinInt, "11111" + strings.Repeat("0", 63)},
	} {
		w, x, y := bitio.NewWriter(), vary.NewRow(), vary.NewRow()
		x.Put(w, 0)
		x.Put(w, 0)
		x.Put(w, c.v)
		if told(w) != "0000"+c.bits {
			t.Errorf("%d: %s", c.v, told(w))
		}
		r := of(w)
		y.Get(r)
		y.Get(r)
		if v, e := y.Get(r); v != c.v || e != api.OK || r.Left() != 0 || y.Len() != 3 {
			t.Errorf("%d: %d %d", c.v, v, e)
		}
	}
}

// P6.2: the errors of a row.
func TestRowErrors(t *testing.T) {
	for _, c := range []struct {
		bits string
		e    api.Errno
	}{
		{"", api.ErrShort},
		{"1", api.ErrShort},
		{"111", api.ErrShort},
		{"10 00000", api.ErrShort},
		{"10 000000", api.ErrForm},
		{"10 000001", api.OK},
		{"110 0000011111", api.ErrForm},

		{"110 1111100000", api.ErrForm},
		{"110 1111011111", api.OK},
		{"1110 0000000111111111", api.ErrForm},
		{"1110 1111111000000000", api.ErrForm},
		{"1110 000000100000000", api.ErrShort},

		{"1111" + strings.Repeat("0", 64), api.ErrForm},
		{"1111" + strings.Repeat("1", 48) + "1000000000000000", api.ErrForm},
		{"1111" + strings.Repeat("1", 48) + "0111111111111111", api.OK},
		{"1111" + strings.Repeat("1", 63), api.ErrShort},
	} {
		x := vary.NewRow()
		w := bitio.NewWriter()
		x.Put(w, 3)
		x.Put(w, 5)
		r := reader(c.bits)
		n := r.Left()
		v, e := x.Get(r)
		if e != c.e || e != api.OK && (v != 0 || r.Left() != n || x.Len() != 2) {
			t.Errorf("%s: %d %d", c.bits, v, e)
		}
		if e != api.OK {
			if v, e := x.Get(reader("0")); v != 7 || e != api.OK {
				t.Errorf("behind %s: %d %d", c.bits, v, e)
			}
		}
	}
	x := vary.NewRow()
	if _, e := x.Get(reader("01 0000000")); e != api.ErrForm || x.Len() != 0 {
		t.Error("of the first one")
	}
}

// some are numbers that lie at edges, or near the one ahead.
func some(rnd *rand.Rand, n int) []int {
	l, v := []int{}, 0
	for range n {
		switch rnd.Intn(5) {
		case 0:
			v = int(rnd.Uint64())
		case 1:
			v += rnd.Intn(100) - 50
		case 2:
			v += 1 << rnd.Intn(64)
		case 3:
			v = math.MinInt + rnd.Intn(2)
		}
		l = append(l, v)
	}
	return l
}

// P6.3: what is put is got as it was, and got bits are put as they were.
func TestRoundTrip(t *testing.T) {
	rnd := rand.New(rand.NewSource(1))
	for range 500 {
		l := some(rnd, rnd.Intn(20))
		w, x := bitio.NewWriter(), vary.NewRow()
		for _, v := range l {
			x.Put(w, v)
			vary.PutInt(w, v)
			vary.Put(w, uint64(v))
		}
		r, y := of(w), vary.NewRow()
		for _, v := range l {
			a, _ := y.Get(r)
			b, _ := vary.GetInt(r)
			if c, _ := vary.Get(r); a != v || b != v || c != uint64(v) {
				t.Fatalf("%d: %d %d %d", v, a, b, c)
			}
		}
		if r.Left() != 0 || x.Len() != len(l) || y.Len() != len(l) {
			t.Fatal("Len")
		}
	}
	for range 3000 {
		b := make([]byte, 1+rnd.Intn(30))
		rnd.Read(b)
		r, _ := bitio.NewReader(b, 8*len(b))
		w, x, y := bitio.NewWriter(), vary.NewRow(), vary.NewRow()
		for {
			v, e := x.Get(r)
			if e != api.OK {
				break
			}
			y.Put(w, v)
		}
		if w.Len() != r.At() || !same(w, b) {
			t.Fatalf("%x", b)
		}
	}
}

// same tells whether bytes begin with what a writer has.
func same(w *bitio.Writer, b []byte) bool {
	x := bitio.NewWriter()
	return x.PutBits(b, w.Len()) && bytes.Equal(x.Bytes(), w.Bytes())
}

// P6.2: Clone.
func TestClone(t *testing.T) {
	x := vary.NewRow()
	w := bitio.NewWriter()
	x.Put(w, 10)
	x.Put(w, 20)
	y := x.Clone()
	x.Put(w, 1000)
	a := bitio.NewWriter()
	if y.Put(a, 30); told(a) != "0" || y.Len() != 3 || x.Len() != 3 {
		t.Errorf("%s", told(a))
	}
}
