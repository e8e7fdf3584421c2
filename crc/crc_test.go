package crc_test

import (
	"bytes"
	hashcrc "hash/crc32"
	"math"
	"math/rand"
	"testing"

	"limnograph/crc"
)

// plain is the sum bit by bit, as the document tells it.
func plain(v uint32, b []byte) uint32 {
	for _, c := range b {
		v ^= uint32(c)
		for range 8 {
			if out := v & 1; out == 1 {
				v = v>>1 ^ 0x82f63b78
			} else {
				v >>= 1
			}
		}
	}
	return v
}

// P3.1.
func TestOf(t *testing.T) {
	for _, c := range []struct {
		s   string
		sum uint32
	}{{"", 0}, {"123456789", 0xe3069283}, {"a", 0xc1d04330}} {
		if crc.Of([]byte(c.s)) != c.sum {
			t.Errorf("%q: %x", c.s, crc.Of([]byte(c.s)))
		}
	}
	rnd := rand.New(rand.NewSource(1))
	for range 300 {
		b := make([]byte, rnd.Intn(100))
		rnd.Read(b)
		k := rnd.Intn(len(b) + 1)
		if crc.Of(b) != ^plain(math.MaxUint32, b) || crc.Of(b) != hashcrc.Checksum(b, hashcrc.MakeTable(hashcrc.Castagnoli)) {
			t.Fatalf("Of(%x): %x", b, crc.Of(b))
		}
		if crc.More(crc.Of(b[:k]), b[k:]) != crc.Of(b) || crc.More(0, b) != crc.Of(b) || crc.More(crc.Of(b), nil) != crc.Of(b) {
			t.Fatalf("More of %x at %d", b, k)
		}
	}
}

// P3.2.
func TestJoin(t *testing.T) {
	rnd := rand.New(rand.NewSource(2))
	for range 300 {
		x, y := make([]byte, rnd.Intn(300)), make([]byte, 1+rnd.Intn(300))
		rnd.Read(x)
		rnd.Read(y)
		if crc.Join(crc.Of(x), crc.Of(y), len(y)) != crc.Of(append(bytes.Clone(x), y...)) {
			t.Fatalf("%x and %x", x, y)
		}
		a, b, n := rnd.Uint32(), rnd.Uint32(), 1+rnd.Intn(200)
		if crc.Join(a, b, n) != plain(a, make([]byte, n))^b {
			t.Fatalf("Join(%x, %x, %d)", a, b, n)
		}
	}
	for _, n := range []int{0, -1, math.MinInt} {
		if crc.Join(5, 7, n) != 5 {
			t.Errorf("Join of %d bytes", n)
		}
	}
	// Steps come round after 2^31 - 1 of them, so over as many bytes nothing is changed.
	if crc.Join(12345, 0, 1<<31-1) != 12345 || crc.Join(12345, 6, math.MaxInt) != crc.Join(12345, 6, 1) {
		t.Errorf("%x, %x", crc.Join(12345, 0, 1<<31-1), crc.Join(12345, 6, math.MaxInt))
	}
}

// P3.3.
func TestTurned(t *testing.T) {
	b := []byte("what is measured is kept")
	sum := crc.Of(b)
	for i := range b {
		for x := 1; x < 256; x++ {
			b[i] ^= byte(x)
			if crc.Of(b) == sum {
				t.Fatalf("byte %d turned by %x has the same sum", i, x)
			}
			b[i] ^= byte(x)
		}
	}
	if string(b) != "what is measured is kept" {
		t.Error("what is handed in was changed")
	}
}
