package wire_test

import (
	"bytes"
	"math"
	"math/rand"
	"slices"
	"testing"

	"limnograph/api"
	"limnograph/wire"
)

// same tells whether two fields are the same.
func same(a, b api.Fld) bool {
	return a.Num == b.Num && a.Type == b.Type && a.V == b.V && bytes.Equal(a.B, b.B)
}

// P30.1: Var.
func TestVar(t *testing.T) {
	for _, c := range []struct {
		v uint64
		b []byte
	}{
		{0, []byte{0}},
		{1, []byte{1}},
		{127, []byte{0x7f}},
		{128, []byte{0x80, 1}},
		{300, []byte{0xac, 2}},
		{1<<63 - 1, []byte{255, 255, 255, 255, 255, 255, 255, 255, 0x7f}},
		{math.MaxUint64, []byte{255, 255, 255, 255, 255, 255, 255, 255, 255, 1}},
	} {
		if !bytes.Equal(wire.Var(c.v), c.b) {
			t.Errorf("%d: %x", c.v, wire.Var(c.v))
		}
		if v, n, e := wire.GetVar(append([]byte{9}, c.b...), 1); v != c.v || n != len(c.b) || e != api.OK {
			t.Errorf("%x: %d %d %d", c.b, v, n, e)
		}
	}
}

// P30.1: GetVar.
func TestGetVar(t *testing.T) {
	nine := bytes.Repeat([]byte{0x80}, 9)
	with := func(c byte) []byte { return append(bytes.Clone(nine), c) }
	for _, c := range []struct {
		b  []byte
		at int
		v  uint64
		n  int
		e  api.Errno
	}{
		{nil, 0, 0, 0, api.ErrShort},
		{nil, -1, 0, 0, api.ErrArg},
		{nil, 1, 0, 0, api.ErrArg},
		{[]byte{5}, 1, 0, 0, api.ErrShort},
		{[]byte{5}, 2, 0, 0, api.ErrArg},
		{[]byte{5}, math.MinInt, 0, 0, api.ErrArg},
		{[]byte{5}, math.MaxInt, 0, 0, api.ErrArg},
		{[]byte{0x80}, 0, 0, 0, api.ErrShort},
		{[]byte{0x80, 0}, 0, 0, 0, api.ErrForm},
		{[]byte{0, 5}, 0, 0, 1, api.OK},
		{[]byte{0x80, 0x80, 0}, 0, 0, 0, api.ErrForm},

		{[]byte{0x80, 0x80, 1}, 0, 1 << 14, 3, api.OK},
		{nine, 0, 0, 0, api.ErrShort},
		{with(0), 0, 0, 0, api.ErrForm},
		{with(1), 0, 1 << 63, 10, api.OK},
		{with(2), 0, 0, 0, api.ErrForm},
		{with(0x80), 0, 0, 0, api.ErrForm},
		{with(0x81), 0, 0, 0, api.ErrForm},
	} {
		if v, n, e := wire.GetVar(c.b, c.at); v != c.v || n != c.n || e != c.e {
			t.Errorf("%x at %d: %d %d %d", c.b, c.at, v, n, e)
		}
	}
}

// P30.2: Encode.
func TestEncode(t *testing.T) {
	for i, c := range []struct {
		l []api.Fld
		b []byte
		e api.Errno
	}{
		{nil, nil, api.OK},
		{[]api.Fld{{Num: 1, V: 150}}, []byte{8, 0x96, 1}, api.OK},
		{[]api.Fld{{Num: 2, Type: 1, V: 0x0102030405060708}}, []byte{17, 8, 7, 6, 5, 4, 3, 2, 1}, api.OK},
		{[]api.Fld{{Num: 3, Type: 2, B: []byte("ab")}, {Num: 3, Type: 2}}, []byte{26, 2, 'a', 'b', 26, 0}, api.OK},
		{[]api.Fld{{Num: 1<<29 - 1}}, []byte{0xf8, 255, 255, 255, 15, 0}, api.OK},

		{[]api.Fld{{Num: 0, Type: 9}}, nil, api.ErrArg},
		{[]api.Fld{{Num: -1}}, nil, api.ErrArg},
		{[]api.Fld{{Num: 1 << 29}}, nil, api.ErrArg},
		{[]api.Fld{{Num: 1, Type: 3, B: []byte("a")}}, nil, api.ErrKind},
		{[]api.Fld{{Num: 1, Type: -1}}, nil, api.ErrKind},
		{[]api.Fld{{Num: 1, B: []byte("a")}}, nil, api.ErrForm},
		{[]api.Fld{{Num: 1, Type: 1, B: []byte("a")}}, nil, api.ErrForm},
		{[]api.Fld{{Num: 1, Type: 2, V: 1}}, nil, api.ErrForm},

		{[]api.Fld{{Num: 1, B: []byte{}}}, []byte{8, 0}, api.OK},
		{[]api.Fld{{Num: 1}, {Num: 1, Type: 5}, {Num: 0}}, nil, api.ErrKind},
	} {
		if b, e := wire.Encode(c.l); !bytes.Equal(b, c.b) || e != c.e {
			t.Errorf("%d: %x %d", i, b, e)
		}
	}
}

// P30.2: Decode.
func TestDecode(t *testing.T) {
	for _, c := range []struct {
		b  []byte
		n  int
		at int
		e  api.Errno
	}{
		{nil, 0, 0, api.OK},
		{[]byte{8, 5, 8, 6}, 2, 0, api.OK},
		{[]byte{0x80}, 0, 0, api.ErrShort},
		{[]byte{8, 5, 0x88, 0}, 0, 2, api.ErrForm},
		{[]byte{13, 1, 2, 3, 4}, 0, 0, api.ErrKind},
		{[]byte{8, 5, 11}, 0, 2, api.ErrKind},
		{[]byte{3}, 0, 0, api.ErrKind},
		{[]byte{0, 5}, 0, 0, api.ErrArg},
		{[]byte{0x80, 0x80, 0x80, 0x80, 0x10, 5}, 0, 0, api.ErrArg},
		{[]byte{0xf8, 255, 255, 255, 15, 0}, 1, 0, api.OK},

		{[]byte{255, 255, 255, 255, 255, 255, 255, 255, 255, 1}, 0, 0, api.ErrKind},
		{[]byte{8}, 0, 0, api.ErrShort},
		{[]byte{8, 0x80, 0}, 0, 0, api.ErrForm},
		{[]byte{8, 1, 9, 1, 2, 3, 4, 5, 6, 7}, 0, 2, api.ErrShort},
		{[]byte{9, 1, 2, 3, 4, 5, 6, 7, 8}, 1, 0, api.OK},
		{[]byte{10}, 0, 0, api.ErrShort},
		{[]byte{10, 2, 1}, 0, 0, api.ErrShort},
		{[]byte{10, 0}, 1, 0, api.OK},
		{[]byte{10, 0x80, 0}, 0, 0, api.ErrForm},
		{[]byte{10, 255, 255, 255, 255, 255, 255, 255, 255, 255, 1, 1}, 0, 0, api.ErrShort},
	} {
		if l, at, e := wire.Decode(c.b); len(l) != c.n || at != c.at || e != c.e {
			t.Errorf("%x: %v %d %d", c.b, l, at, e)
		}
	}
}

// P30.3.
func TestAll(t *testing.T) {
	l := []api.Fld{{Num: 1, V: 5}, {Num: 2, Type: 2, B: []byte("a")}, {Num: 1, V: 6}, {Num: 2, Type: 2, B: []byte("b")}}
	if a := wire.All(l, 1); len(a) != 2 || a[0].V != 5 || a[1].V != 6 || len(wire.All(l, 3)) != 0 || len(wire.All(nil, 1)) != 0 {
		t.Errorf("%v", a)
	}
	if f, ok := wire.Last(l, 2); !ok || string(f.B) != "b" {
		t.Errorf("%v", f)
	}
	if f, ok := wire.Last(l[:2], 1); !ok || f.V != 5 {
		t.Errorf("%v", f)
	}
	if f, ok := wire.Last(l, 3); ok || !same(f, api.Fld{}) {
		t.Errorf("%v", f)
	}
	wire.All(l, 2)[0].B[0] = 'x'
	f, _ := wire.Last(l, 2)
	f.B[0] = 'x'
	if string(l[1].B) != "a" || string(l[3].B) != "b" {
		t.Error("memory is shared")
	}
	if b := wire.Packed([]uint64{1, 300, 0}); !bytes.Equal(b, []byte{1, 0xac, 2, 0}) || len(wire.Packed(nil)) != 0 {
		t.Errorf("%x", b)
	}
	for i, c := range []struct {
		b []byte
		l []uint64
		e api.Errno
	}{
		{nil, nil, api.OK},
		{[]byte{1, 0xac, 2, 0}, []uint64{1, 300, 0}, api.OK},
		{[]byte{1, 0xac}, nil, api.ErrShort},
		{[]byte{1, 0x80, 0}, nil, api.ErrForm},
	} {
		if l, e := wire.Unpacked(c.b); !slices.Equal(l, c.l) || e != c.e {
			t.Errorf("%d: %v %d", i, l, e)
		}
	}
}

// P30.4.
func TestRoundTrip(t *testing.T) {
	rnd := rand.New(rand.NewSource(1))
	taken := 0
	for range 5000 {
		var l []api.Fld
		for range rnd.Intn(5) {
			f := api.Fld{Num: 1 + rnd.Intn(40), Type: rnd.Intn(3)}
			if f.Type == 2 {
				f.B = make([]byte, rnd.Intn(5))
			} else {
				f.V = rnd.Uint64() >> rnd.Intn(64)
			}
			l = append(l, f)
		}
		b, e := wire.Encode(l)
		got, _, f := wire.Decode(b)
		if e != api.OK || f != api.OK || !slices.EqualFunc(l, got, same) {
			t.Fatalf("%v: %v", l, got)
		}
		for range 3 {
			if len(b) > 0 {
				b[rnd.Intn(len(b))] ^= 1 << rnd.Intn(8)
			}
			if got, _, e := wire.Decode(b); e == api.OK {
				taken++
				if c, e := wire.Encode(got); e != api.OK || !bytes.Equal(b, c) {
					t.Fatalf("%x: %x", b, c)
				}
			}
		}
	}
	if taken < 2000 {
		t.Errorf("%d", taken)
	}
	in := []byte{10, 2, 'a', 'b', 10, 1, 'c'}
	l, _, _ := wire.Decode(in)
	in[2] = 'x'
	l[0].B = append(l[0].B, "123456"...)
	if string(l[0].B[:2]) != "ab" || string(l[1].B) != "c" || in[6] != 'c' {
		t.Error("memory is shared")
	}
}
