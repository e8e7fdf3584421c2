package pack_test

import (
	"bytes"
	"math"
	"math/rand"
	"strings"
	"testing"

	"limnograph/api"
	"limnograph/pack"
)

// edges are numbers at and beside each size.
func edges() []uint64 {
	l := []uint64{0, 1, 5, math.MaxUint64, math.MaxUint64 - 1, 1 << 63}
	for k := range 9 {
		v := uint64(1) << (7 + 7*k)
		l = append(l, v-1, v, v+1)
	}
	return l
}

// P2.1: Zig, Zag.
func TestZig(t *testing.T) {
	for _, c := range []struct {
		v int
		u uint64
	}{{0, 0}, {-1, 1}, {1, 2}, {-2, 3}, {math.MaxInt, math.MaxUint64 - 1}, {math.MinInt, math.MaxUint64}} {
		if pack.Zig(c.v) != c.u || pack.Zag(c.u) != c.v {
			t.Errorf("%d: %d, %d", c.v, pack.Zig(c.v), pack.Zag(c.u))
		}
	}
}

// P2.1: the forms.
func TestForms(t *testing.T) {
	for _, c := range []struct {
		v uint64
		b []byte
	}{
		{0, []byte{0}},
		{127, []byte{0x7f}},
		{128, []byte{0x80, 0x80}},
		{16383, []byte{0xbf, 0xff}},
		{16384, []byte{0xc0, 0x40, 0}},

		{1<<49 - 1, []byte{0xfd, 255, 255, 255, 255, 255, 255}},
		{1 << 49, []byte{0xfe, 2, 0, 0, 0, 0, 0, 0}},
		{1<<56 - 1, []byte{0xfe, 255, 255, 255, 255, 255, 255, 255}},

		{1 << 56, []byte{0xff, 1, 0, 0, 0, 0, 0, 0, 0}},
		{math.MaxUint64, bytes.Repeat([]byte{0xff}, 9)},
	} {
		w := pack.NewWriter()
		w.Num(c.v)
		if !bytes.Equal(w.Bytes(), c.b) || w.Len() != len(c.b) {
			t.Errorf("%d: %x", c.v, w.Bytes())
		}
	}
	w := pack.NewWriter()
	if w.Len() != 0 || len(w.Bytes()) != 0 {
		t.Error("a new writer has bytes")
	}
	w.Int(-1)
	w.Fix(0x0102030405060708)
	w.Text("a")
	w.Raw([]byte{9, 9})
	w.Text("")
	if want := []byte{1, 8, 7, 6, 5, 4, 3, 2, 1, 1, 'a', 9, 9, 0}; !bytes.Equal(w.Bytes(), want) || w.Len() != len(want) {
		t.Errorf("%x", w.Bytes())
	}
}

// P2.2: what is put is taken as it was.
func TestRoundTrip(t *testing.T) {
	for _, v := range edges() {
		w := pack.NewWriter()
		w.Num(v)
		w.Int(pack.Zag(v))
		w.Fix(v)
		w.Text(strings.Repeat("x", int(v%300)))
		r := pack.NewReader(w.Bytes())
		if r.Num() != v || r.Int() != pack.Zag(v) || r.Fix() != v || len(r.Text(300)) != int(v%300) || r.Done() != api.OK {
			t.Errorf("%d: %d", v, r.Err())
		}
	}
}

// P2.2: the errors of Num and Int.
func TestNumErrors(t *testing.T) {
	for _, c := range []struct {
		b []byte
		e api.Errno
	}{
		{nil, api.ErrShort},
		{[]byte{0x80}, api.ErrShort},
		{[]byte{0x80, 0x7f}, api.ErrForm},
		{[]byte{0x80, 0x80}, api.OK},
		{[]byte{0xc0, 0x3f, 0xff}, api.ErrForm},

		{[]byte{0xc0, 0x40}, api.ErrShort},
		{[]byte{0xfe, 1, 255, 255, 255, 255, 255, 255}, api.ErrForm},
		{[]byte{0xff, 0, 255, 255, 255, 255, 255, 255, 255}, api.ErrForm},

		{[]byte{0xff, 1, 0, 0, 0, 0, 0, 0, 0}, api.OK},
		{[]byte{0xff, 1, 0, 0, 0, 0, 0, 0}, api.ErrShort},
	} {
		r, i := pack.NewReader(c.b), pack.NewReader(c.b)
		v, s := r.Num(), i.Int()
		if r.Err() != c.e || i.Err() != c.e || c.e != api.OK && (v != 0 || s != 0 || r.At() != 0 || i.At() != 0) {
			t.Errorf("%x: %d %d", c.b, r.Err(), v)
		}
	}
}

// P2.2: Count.
func TestCount(t *testing.T) {
	for _, c := range []struct {
		b    []byte
		most int
		v    int
		e    api.Errno
	}{
		{[]byte{5}, 5, 5, api.OK},
		{[]byte{5}, 4, 0, api.ErrLarge},
		{[]byte{0}, 0, 0, api.OK},
		{[]byte{0}, -1, 0, api.ErrLarge},
		{nil, -1, 0, api.ErrShort},

		{[]byte{0x80, 1}, 0, 0, api.ErrForm},
		{bytes.Repeat([]byte{0xff}, 9), math.MaxInt, 0, api.ErrLarge},
		{[]byte{0xff, 0x7f, 255, 255, 255, 255, 255, 255, 255}, math.MaxInt, math.MaxInt, api.OK},
	} {
		r := pack.NewReader(c.b)
		if v := r.Count(c.most); v != c.v || r.Err() != c.e || c.e != api.OK && r.At() != 0 {
			t.Errorf("%x, %d: %d %d", c.b, c.most, v, r.Err())
		}
	}
}

// P2.2: Fix, Text, Raw.
func TestTexts(t *testing.T) {
	r := pack.NewReader(make([]byte, 7))
	if r.Fix() != 0 || r.Err() != api.ErrShort || r.At() != 0 || r.Left() != 7 {
		t.Error("Fix")
	}
	for _, c := range []struct {
		b    []byte
		most int
		s    string
		e    api.Errno
	}{
		{[]byte{1, 'a'}, 1, "a", api.OK},
		{[]byte{1, 'a'}, 0, "", api.ErrLarge},
		{[]byte{2, 'a'}, 2, "", api.ErrShort},
		{[]byte{2, 'a'}, 1, "", api.ErrLarge},

		{[]byte{0}, 0, "", api.OK},
		{[]byte{0}, -1, "", api.ErrLarge},
		{nil, 3, "", api.ErrShort},
		{[]byte{0x80, 1, 'a'}, 3, "", api.ErrForm},
	} {
		r := pack.NewReader(c.b)
		if s := r.Text(c.most); s != c.s || r.Err() != c.e || c.e != api.OK && r.At() != 0 {
			t.Errorf("%x, %d: %q %d at %d", c.b, c.most, s, r.Err(), r.At())
		}
	}
	for _, c := range []struct {
		n int
		e api.Errno
	}{{0, api.OK}, {3, api.OK}, {4, api.ErrShort}, {-1, api.ErrArg}, {math.MinInt, api.ErrArg}, {math.MaxInt, api.ErrShort}} {
		r := pack.NewReader([]byte{1, 2, 3})
		if b := r.Raw(c.n); r.Err() != c.e || c.e == api.OK && (len(b) != c.n || r.At() != c.n) || c.e != api.OK && (b != nil || r.At() != 0) {
			t.Errorf("Raw(%d): %x %d", c.n, b, r.Err())
		}
	}
}

// P2.2, P2.3: the first error stays.
func TestSticky(t *testing.T) {
	r := pack.NewReader([]byte{7, 0x80, 1, 1, 'a', 0, 0, 0, 0, 0, 0, 0, 0})
	if r.Num() != 7 || r.Num() != 0 || r.Err() != api.ErrForm {
		t.Fatal("Num")
	}
	if r.Raw(-1) != nil || r.Num() != 0 || r.Int() != 0 || r.Count(-1) != 0 || r.Fix() != 0 || r.Text(9) != "" || r.Raw(1) != nil {
		t.Error("something is taken behind an error")
	}
	if r.Err() != api.ErrForm || r.Done() != api.ErrForm || r.At() != 1 || r.Left() != 12 {
		t.Errorf("%d at %d", r.Err(), r.At())
	}
}

// P2.3.
func TestDone(t *testing.T) {
	r := pack.NewReader([]byte{1, 2})
	if r.Err() != api.OK || r.Done() != api.ErrForm || r.Left() != 2 {
		t.Error("at the beginning")
	}
	if r.Num(); r.Done() != api.ErrForm || r.Err() != api.OK || r.At() != 1 || r.Left() != 1 {
		t.Error("in between")
	}
	if r.Num(); r.Done() != api.OK || r.Err() != api.OK || r.Left() != 0 {
		t.Error("at the end")
	}
	if pack.NewReader(nil).Done() != api.OK {
		t.Error("of nothing")
	}
}

// P2.2: whatever is read, what is taken has one form alone.
func TestOneForm(t *testing.T) {
	rnd := rand.New(rand.NewSource(3))
	for range 20000 {
		b := make([]byte, rnd.Intn(11))
		rnd.Read(b)
		if len(b) > 0 && rnd.Intn(2) == 0 {
			b[0] |= 0xf0
		}
		r := pack.NewReader(b)
		if v := r.Num(); r.Err() == api.OK {
			w := pack.NewWriter()
			w.Num(v)
			if !bytes.Equal(w.Bytes(), b[:r.At()]) {
				t.Fatalf("%x: %d", b, v)
			}
		}
	}
}

// P2.4.
func TestMemory(t *testing.T) {
	in := []byte{3, 1, 2, 3}
	r := pack.NewReader(in)
	in[1] = 9
	r.Num()
	a := r.Raw(1)
	a = append(a, 8)
	if a[0] != 1 || r.Raw(1)[0] != 2 {
		t.Error("what is handed in is kept, or what is answered is not new")
	}
	w := pack.NewWriter()
	w.Raw(in)
	in[0] = 7
	out := w.Bytes()
	out[2] = 7
	if !bytes.Equal(w.Bytes(), []byte{3, 9, 2, 3}) {
		t.Errorf("%x", w.Bytes())
	}
}
