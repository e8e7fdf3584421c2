// Package bitio is layer 1: see shared/doc/01-bitio.md.
package bitio

import (
	"bytes"

	"limnograph/api"
)

// most is how many bits one number has at most.
const most = 64

// Writer puts bits down.
type Writer struct {
	b []byte
	n int
}

// Reader takes bits.
type Reader struct {
	b  []byte
	n  int
	at int
}

// NewWriter is a writer without bits.
func NewWriter() *Writer {
	return &Writer{}
}

// Put puts a number's bits down, the highest first.
func (w *Writer) Put(v uint64, n int) bool {
	if n < 0 || n > most || n < most && v>>n != 0 {
		return false
	}
	for n > 0 {
		free := 8 - w.n%8
		if free == 8 {
			w.b = append(w.b, 0)
		}
		k := min(free, n)
		part := byte(v >> (n - k) & (1<<k - 1))
		w.b[w.n/8] |= part << (free - k)
		w.n += k
		n -= k
	}
	return true
}

// PutBits puts the first bits of some bytes down.
func (w *Writer) PutBits(b []byte, n int) bool {
	if n < 0 || n > 8*len(b) {
		return false
	}
	for _, c := range b[:n/8] {
		w.Put(uint64(c), 8)
	}
	if rest := n % 8; rest > 0 {
		w.Put(uint64(b[n/8]>>(8-rest)), rest)
	}
	return true
}

// Len is how many bits there are.
func (w *Writer) Len() int {
	return w.n
}

// Bytes is the bits, filled up.
func (w *Writer) Bytes() []byte {
	return bytes.Clone(w.b)
}

// Cut leaves the first bits.
func (w *Writer) Cut(n int) bool {
	if n < 0 || n > w.n {
		return false
	}
	w.b = w.b[:size(n)]
	w.n = n
	if rest := n % 8; rest > 0 {
		w.b[n/8] &= 0xff << (8 - rest)
	}
	return true
}

// size is how many bytes so many bits need.
func size(n int) int {
	whole := n / 8
	if n%8 > 0 {
		whole++
	}
	return whole
}

// NewReader is a reader of the first bits of some bytes, which have no others.
func NewReader(b []byte, n int) (*Reader, api.Errno) {
	if n < 0 {
		return nil, api.ErrArg
	}
	if n > 8*len(b) {
		return nil, api.ErrShort
	}
	if len(b) > size(n) {
		return nil, api.ErrForm
	}
	if rest := n % 8; rest > 0 && b[n/8]<<rest != 0 {
		return nil, api.ErrForm
	}
	return &Reader{b: bytes.Clone(b), n: n}, api.OK
}

// Left is how many bits are left.
func (r *Reader) Left() int {
	return r.n - r.at
}

// At is how many bits are taken.
func (r *Reader) At() int {
	return r.at
}

// Look is the next bits, which aren't taken.
func (r *Reader) Look(n int) (uint64, bool) {
	if n < 0 || n > most || n > r.Left() {
		return 0, false
	}
	v, at := uint64(0), r.at
	for n > 0 {
		free := 8 - at%8
		k := min(free, n)
		part := r.b[at/8] >> (free - k) & (1<<k - 1)
		v = v<<k | uint64(part)
		at += k
		n -= k
	}
	return v, true
}

// Take is the next bits.
func (r *Reader) Take(n int) (uint64, bool) {
	v, ok := r.Look(n)
	if ok {
		r.at += n
	}
	return v, ok
}

// Skip leaves the next bits out.
func (r *Reader) Skip(n int) bool {
	if n < 0 || n > r.Left() {
		return false
	}
	r.at += n
	return true
}
