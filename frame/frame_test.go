package frame_test

import (
	"bytes"
	"math"
	"testing"

	"limnograph/api"
	"limnograph/crc"
	"limnograph/frame"
)

// must is a payload's frame.
func must(t *testing.T, payload string) []byte {
	t.Helper()
	b, e := frame.Wrap([]byte(payload))
	if e != api.OK {
		t.Fatalf("Wrap: %d", e)
	}
	return b
}

// P4.1.
func TestWrap(t *testing.T) {
	b := must(t, "abc")
	sum := crc.Of([]byte{0xa5, 3, 0, 0, 0, 'a', 'b', 'c'})
	want := []byte{0xa5, 3, 0, 0, 0, byte(sum), byte(sum >> 8), byte(sum >> 16), byte(sum >> 24), 'a', 'b', 'c'}
	if !bytes.Equal(b, want) {
		t.Errorf("%x", b)
	}
	if b := must(t, ""); len(b) != 9 || !bytes.Equal(b[:5], []byte{0xa5, 0, 0, 0, 0}) {
		t.Errorf("%x", b)
	}
	big := make([]byte, api.MaxPayload+1)
	if b, e := frame.Wrap(big); e != api.ErrLarge || b != nil {
		t.Errorf("%d", e)
	}
	b, e := frame.Wrap(big[1:])
	if e != api.OK || len(b) != api.MaxPayload+9 || b[3] != 1 {
		t.Errorf("%d", e)
	}
	if p, n, e := frame.First(b); e != api.OK || n != len(b) || len(p) != api.MaxPayload {
		t.Errorf("%d", e)
	}
}

// P4.1: Size.
func TestSize(t *testing.T) {
	for _, c := range [][2]int{{0, 9}, {1, 10}, {api.MaxPayload, api.MaxPayload + 9}, {api.MaxPayload + 1, 0}, {-1, 0}, {math.MinInt, 0}, {math.MaxInt, 0}} {
		if frame.Size(c[0]) != c[1] {
			t.Errorf("Size(%d): %d", c[0], frame.Size(c[0]))
		}
	}
}

// P4.2.
func TestFirst(t *testing.T) {
	good := must(t, "abc")
	wrong := func(at int, v byte) []byte {
		b := bytes.Clone(good)
		b[at] = v
		return b
	}
	for i, c := range []struct {
		b []byte
		e api.Errno
	}{
		{nil, api.ErrShort},
		{[]byte{0}, api.ErrForm},
		{wrong(0, 0xa4), api.ErrForm},
		{[]byte{0xa5}, api.ErrShort},
		{good[:8], api.ErrShort},
		{good[:9], api.ErrShort},

		{good[:11], api.ErrShort},
		{good, api.OK},
		{wrong(1, 4), api.ErrShort},
		{wrong(1, 2), api.ErrSum},
		{wrong(4, 1), api.ErrLarge},
		{wrong(3, 1), api.ErrLarge},

		{wrong(3, 1)[:9], api.ErrLarge},
		{wrong(3, 1)[:8], api.ErrShort},
		{wrong(5, 0), api.ErrSum},
		{wrong(11, 0), api.ErrSum},
		{append(bytes.Clone(good), 7), api.OK},
	} {
		p, n, e := frame.First(c.b)
		if e != c.e || e == api.OK && (string(p) != "abc" || n != 12) || e != api.OK && (p != nil || n != 0) {
			t.Errorf("%d: %q %d %d", i, p, n, e)
		}
	}
	big := append([]byte{0xa5, 0, 0, 1, 0}, make([]byte, 10)...)
	if _, _, e := frame.First(big); e != api.ErrShort {
		t.Errorf("a length of MaxPayload: %d", e)
	}
}

// P4.3.
func TestScan(t *testing.T) {
	two := append(must(t, "abc"), must(t, "")...)
	for i, c := range []struct {
		rest []byte
		e    api.Errno
	}{
		{nil, api.OK},
		{[]byte{0xa5}, api.ErrShort},
		{[]byte{0}, api.ErrForm},
		{[]byte{0xa5, 0, 0, 2, 0, 0, 0, 0, 0}, api.ErrLarge},
		{[]byte{0xa5, 0, 0, 0, 0, 0, 0, 0, 0}, api.ErrSum},
	} {
		l, used, e := frame.Scan(append(bytes.Clone(two), c.rest...))
		if e != c.e || used != len(two) || len(l) != 2 || string(l[0]) != "abc" || len(l[1]) != 0 {
			t.Errorf("%d: %q %d %d", i, l, used, e)
		}
	}
	if l, used, e := frame.Scan(nil); len(l) != 0 || used != 0 || e != api.OK {
		t.Error("of nothing")
	}
	if l, used, e := frame.Scan([]byte{1}); len(l) != 0 || used != 0 || e != api.ErrForm {
		t.Error("of no frame")
	}
}

// P4.4: what is cut off, and what is turned.
func TestDamage(t *testing.T) {
	b := must(t, "some payload")
	for n := 1; n < len(b); n++ {
		if _, _, e := frame.First(b[:n]); e != api.ErrShort {
			t.Errorf("cut at %d: %d", n, e)
		}
	}
	for i := 5; i < len(b); i++ {
		for x := 1; x < 256; x++ {
			c := bytes.Clone(b)
			c[i] ^= byte(x)
			if _, _, e := frame.First(c); e != api.ErrSum {
				t.Errorf("byte %d turned by %x: %d", i, x, e)
			}
		}
	}
}

// P4.4: memory.
func TestMemory(t *testing.T) {
	in := []byte("abcd")
	b, _ := frame.Wrap(in[:3])
	in[0] = 'x'
	if p, _, _ := frame.First(b); string(p) != "abc" || in[3] != 'd' {
		t.Error("what is handed in is kept")
	}
	two := append(bytes.Clone(b), b...)
	l, _, _ := frame.Scan(two)
	two[9] = 'y'
	l[0] = append(l[0], "12345678901234567890"...)
	l[0][1] = 'z'
	if string(l[1]) != "abc" || l[0][0] != 'a' || !bytes.Equal(two[12:], b) {
		t.Error("payloads share memory")
	}
}
