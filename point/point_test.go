package point_test

import (
	"bytes"
	"math"
	"math/rand"
	"slices"
	"strings"
	"testing"

	"limnograph/api"
	"limnograph/pack"
	"limnograph/point"
)

// sum, float, gauge, phasor and histo are right points.
func sum() api.Point {
	return api.Point{Name: "x", Kind: api.IntSum, Temp: api.Cumul, Mono: true, Time: 10, Int: 5}
}

func float() api.Point {
	return api.Point{Name: "f", Kind: api.FloatSum, Temp: api.Delta, Start: 5, Time: 10, Re: 0xc000000000000000}
}

func gauge() api.Point {
	return api.Point{Name: "g", Kind: api.Gauge, Start: 10, Time: 10, Re: 7}
}

func phasor() api.Point {
	return api.Point{Name: "p", Kind: api.Phasor, Temp: api.Delta, Time: 10, Re: 7, Im: 8}
}

func histo() api.Point {
	return api.Point{Name: "h", Attrs: []api.Pair{{Key: "b", Val: "2"}, {Key: "a", Val: "1"}}, Kind: api.Histo, Temp: api.Cumul, Time: 10, Flags: 31,
		Hist: api.Hist{Scale: -2, Zero: 3, Pos: api.Side{Offset: -5, Counts: []uint64{1, 0, math.MaxUint32}}, Neg: api.Side{Offset: 9, Counts: []uint64{4}}}}
}

// but is a point that is changed.
func but(p api.Point, f func(p *api.Point)) api.Point {
	f(&p)
	return p
}

// P12.1.
func TestCheck(t *testing.T) {
	const inf, nan, mone, mnul = 0x7ff0000000000000, 0x7ff8000000000001, 0xbff0000000000000, 1 << 63
	for i, c := range []struct {
		p api.Point
		e api.Errno
	}{
		{sum(), api.OK},
		{float(), api.OK},
		{gauge(), api.OK},
		{phasor(), api.OK},
		{histo(), api.OK},

		{but(sum(), func(p *api.Point) { p.Name = "X"; p.Kind = 9 }), api.ErrForm},
		{but(sum(), func(p *api.Point) { p.Attrs = make([]api.Pair, 5) }), api.ErrLarge},
		{but(histo(), func(p *api.Point) { p.Attrs = append(p.Attrs, p.Attrs[0]) }), api.ErrThere},

		{but(sum(), func(p *api.Point) { p.Kind = 0; p.Start = -1 }), api.ErrKind},
		{but(sum(), func(p *api.Point) { p.Kind = 6 }), api.ErrKind},
		{but(sum(), func(p *api.Point) { p.Kind = -1 }), api.ErrKind},
		{but(sum(), func(p *api.Point) { p.Temp = 0 }), api.ErrKind},
		{but(sum(), func(p *api.Point) { p.Temp = 3 }), api.ErrKind},

		{but(gauge(), func(p *api.Point) { p.Temp = 1 }), api.ErrKind},
		{but(gauge(), func(p *api.Point) { p.Temp = 2 }), api.ErrKind},
		{but(histo(), func(p *api.Point) { p.Temp = 0 }), api.ErrKind},
		{but(sum(), func(p *api.Point) { p.Temp = -1 }), api.ErrKind},

		{but(gauge(), func(p *api.Point) { p.Mono = true }), api.ErrArg},
		{but(phasor(), func(p *api.Point) { p.Mono = true }), api.ErrArg},
		{but(histo(), func(p *api.Point) { p.Mono = true }), api.ErrArg},
		{but(float(), func(p *api.Point) { p.Mono, p.Re = true, 1 }), api.OK},

		{but(sum(), func(p *api.Point) { p.Start = -1; p.Re = 1 }), api.ErrArg},
		{but(sum(), func(p *api.Point) { p.Time = 1 << 52 }), api.OK},
		{but(sum(), func(p *api.Point) { p.Time = 1<<52 + 1 }), api.ErrArg},
		{but(sum(), func(p *api.Point) { p.Time = 0 }), api.ErrArg},
		{but(sum(), func(p *api.Point) { p.Start = 10 }), api.ErrArg},

		{but(sum(), func(p *api.Point) { p.Start = math.MinInt }), api.ErrArg},
		{but(gauge(), func(p *api.Point) { p.Start = 9 }), api.ErrArg},
		{but(gauge(), func(p *api.Point) { p.Start, p.Time = 0, 0 }), api.OK},
		{but(gauge(), func(p *api.Point) { p.Start, p.Time = -1, -1 }), api.ErrArg},

		{but(sum(), func(p *api.Point) { p.Re = 1; p.Int = -1 }), api.ErrForm},
		{but(sum(), func(p *api.Point) { p.Im = 1 }), api.ErrForm},
		{but(sum(), func(p *api.Point) { p.Hist.Scale = 1 }), api.ErrForm},
		{but(sum(), func(p *api.Point) { p.Hist.Zero = 1 }), api.ErrForm},

		{but(float(), func(p *api.Point) { p.Int = 1 }), api.ErrForm},
		{but(float(), func(p *api.Point) { p.Im = 1 }), api.ErrForm},
		{but(gauge(), func(p *api.Point) { p.Int = 1 }), api.ErrForm},
		{but(gauge(), func(p *api.Point) { p.Hist.Pos.Offset = 1 }), api.ErrForm},

		{but(phasor(), func(p *api.Point) { p.Int = 1 }), api.ErrForm},
		{but(phasor(), func(p *api.Point) { p.Hist.Neg.Counts = []uint64{1} }), api.ErrForm},
		{but(phasor(), func(p *api.Point) { p.Hist.Neg.Counts = []uint64{} }), api.OK},
		{but(phasor(), func(p *api.Point) { p.Hist.Neg.Offset = 1 }), api.ErrForm},

		{but(phasor(), func(p *api.Point) { p.Hist.Pos.Counts = []uint64{0} }), api.ErrForm},
		{but(histo(), func(p *api.Point) { p.Int = 1 }), api.ErrForm},
		{but(histo(), func(p *api.Point) { p.Re = 1 }), api.ErrForm},
		{but(histo(), func(p *api.Point) { p.Im = 1 }), api.ErrForm},

		{but(sum(), func(p *api.Point) { p.Flags = 32 }), api.ErrForm},
		{but(sum(), func(p *api.Point) { p.Flags = -1 }), api.ErrForm},
		{but(sum(), func(p *api.Point) { p.Flags = 31 }), api.OK},

		{but(float(), func(p *api.Point) { p.Re = nan }), api.OK},
		{but(float(), func(p *api.Point) { p.Mono, p.Re = true, nan }), api.ErrFinite},
		{but(float(), func(p *api.Point) { p.Mono, p.Re = true, inf }), api.ErrFinite},
		{but(float(), func(p *api.Point) { p.Mono, p.Re = true, inf|mnul }), api.ErrFinite},

		{but(float(), func(p *api.Point) { p.Mono, p.Re = true, mone }), api.ErrArg},
		{but(float(), func(p *api.Point) { p.Mono, p.Re = true, mnul }), api.OK},
		{but(sum(), func(p *api.Point) { p.Int = -1 }), api.ErrArg},
		{but(sum(), func(p *api.Point) { p.Int, p.Mono = -1, false }), api.OK},
		{but(sum(), func(p *api.Point) { p.Int = 0 }), api.OK},

		{but(histo(), func(p *api.Point) { p.Hist.Scale = 21 }), api.ErrArg},
		{but(histo(), func(p *api.Point) { p.Hist.Pos.Counts = make([]uint64, 161) }), api.ErrLarge},
		{but(histo(), func(p *api.Point) { p.Hist.Pos.Counts = nil }), api.ErrForm},
		{but(histo(), func(p *api.Point) { p.Hist = api.Hist{} }), api.OK},
	} {
		if e := point.Check(c.p); e != c.e {
			t.Errorf("%d: %d", i, e)
		}
		k, e := point.Key(c.p)
		b, f := point.Bytes(c.p)
		if e != c.e || f != c.e || c.e != api.OK && (k != "" || b != nil) {
			t.Errorf("%d: %q %d, %x %d", i, k, e, b, f)
		}
	}
}

// P12.2.
func TestKeyBytes(t *testing.T) {
	for _, c := range []struct {
		p   api.Point
		key string
		b   []byte
	}{
		{sum(), "x 111", []byte{1, 'x', 1, 1, 1, 0, 0, 10, 10}},
		{float(), "f 220", []byte{1, 'f', 2, 2, 0, 0, 5, 5, 0, 0, 0, 0, 0, 0, 0, 0xc0}},
		{gauge(), "g 300", []byte{1, 'g', 3, 0, 0, 0, 10, 0, 7, 0, 0, 0, 0, 0, 0, 0}},

		{phasor(), "p 520", []byte{1, 'p', 5, 2, 0, 0, 0, 10, 7, 0, 0, 0, 0, 0, 0, 0, 8, 0, 0, 0, 0, 0, 0, 0}},

		{histo(), "h;a=1;b=2 410", append([]byte("\x09h;a=1;b=2"), 4, 1, 0, 31, 0, 10, 3, 3, 3, 9, 1, 0, 0xf0, 0xff, 0xff, 0xff, 0xff, 1, 18, 4)},
	} {
		k, e := point.Key(c.p)
		b, f := point.Bytes(c.p)
		if k != c.key || e != api.OK || f != api.OK || !bytes.Equal(b, c.b) {
			t.Errorf("%q: %x", k, b)
		}
		p, e := point.Read(c.b)
		if e != api.OK || !point.Same(p, c.p) {
			t.Errorf("%q: %v %d", c.key, p, e)
		}
	}
	p, _ := point.Read([]byte("\x09h;a=1;b=2\x04\x01\x00\x00\x00\x0a\x00\x00\x00\x00"))
	if !slices.Equal(p.Attrs, []api.Pair{{Key: "a", Val: "1"}, {Key: "b", Val: "2"}}) {
		t.Errorf("%q", p.Attrs)
	}
}

// bytesOf is bytes that numbers and texts tell.
func bytesOf(text string, l ...uint64) []byte {
	w := pack.NewWriter()
	w.Text(text)
	for _, v := range l {
		w.Num(v)
	}
	return w.Bytes()
}

// P12.3: the errors.
func TestRead(t *testing.T) {
	const big = 1 << 53
	long := strings.Repeat("y", 401)
	for i, c := range []struct {
		b []byte
		e api.Errno
	}{
		{nil, api.ErrShort},
		{bytesOf(long), api.ErrLarge},
		{bytesOf(long[:400]), api.ErrShort},
		{bytesOf(long[:400], 1, 1, 0, 0, 0, 1, 0), api.ErrForm},
		{bytesOf("x", 1, 1, 0, 0, 0, 1), api.ErrShort},
		{bytesOf("x", 1, 1, 0, 0, 0, 1, 0), api.OK},
		{bytesOf("x", 1, 1, 0, 0, 0, 1, 0, 0), api.ErrForm},

		{bytesOf("x", big+1, 1, 0, 0, 0, 1), api.ErrLarge},
		{bytesOf("x", big, 1, 0, 0, 0, 1), api.ErrKind},
		{bytesOf("x", big, 1, 0, 0, 0, 1, 0), api.ErrForm},
		{bytesOf("x", 1, big+1, 0, 0, 0, 1, 0), api.ErrLarge},
		{bytesOf("x", 1, 1, big+1, 0, 0, 1, 0), api.ErrLarge},

		{bytesOf("x", 1, 1, 0, big+1, 0, 1, 0), api.ErrLarge},
		{bytesOf("x", 1, 1, 0, 0, big+1, 1, 0), api.ErrLarge},
		{bytesOf("x", 1, 1, 0, 0, 0, big+1, 0), api.ErrLarge},
		{bytesOf("x", 1, 1, 0, 0, big, big, 0), api.ErrArg},
		{bytesOf("x", 1, 1, 0, 32, 0, 1, 0), api.ErrForm},

		{bytesOf("x", 1, 1, 2, 0, 0, 0, 0), api.ErrForm},
		{bytesOf("x", 1, 3, 2, 0, 0, 1, 0), api.ErrForm},
		{bytesOf("x", 1, 3, 1, 0, 0, 1, 0), api.ErrKind},
		{bytesOf("X", 1, 1, 0, 0, 0, 1, 0), api.ErrForm},
		{bytesOf("x;b=1;a=1", 1, 1, 2, 0, 0, 1, 0), api.ErrOrder},
		{bytesOf("x;a=1;a=1", 1, 1, 2, 0, 0, 1, 0), api.ErrThere},

		{bytesOf("x", 1, 1, 0, 0, 0, 1, math.MaxUint64), api.OK},
		{bytesOf("x", 1, 1, 1, 0, 0, 1, math.MaxUint64), api.ErrArg},
		{bytesOf("x", 2, 1, 0, 0, 0, 1, 0), api.ErrShort},
		{bytesOf("x", 0, 1, 0, 0, 0, 1), api.ErrKind},
		{bytesOf("x", 6, 1, 0, 0, 0, 1), api.ErrKind},

		{bytesOf("x", 4, 1, 0, 0, 0, 1, 0, 0, 0, 0), api.OK},
		{bytesOf("x", 4, 1, 0, 0, 0, 1, 0, math.MaxUint64, 0, 0), api.OK},
		{bytesOf("x", 4, 1, 0, 0, 0, 1, 42, 0, 0, 0), api.ErrArg},
		{bytesOf("x", 4, 1, 0, 0, 0, 1, 0, 0, 161), api.ErrLarge},
		{bytesOf("x", 4, 1, 0, 0, 0, 1, 0, 0, 160), api.ErrShort},

		{bytesOf("x", 4, 1, 0, 0, 0, 1, 0, 0, 1, 0, 0, 0), api.ErrForm},
		{bytesOf("x", 4, 1, 0, 0, 0, 1, 0, 0, 1, 0, math.MaxUint64, 0), api.OK},
		{bytesOf("x", 4, 1, 0, 0, 0, 1, 0, 1, 1, 0, math.MaxUint64, 0), api.ErrLarge},
		{bytesOf("x", 4, 1, 0, 0, 0, 1, 0, 0, 0, 1, 0, 2, 2), api.ErrForm},
	} {
		if p, e := point.Read(c.b); e != c.e || e != api.OK && !point.Same(p, api.Point{}) {
			t.Errorf("%d, %x: %v %d", i, c.b, p, e)
		}
	}
}

// P12.3: the numbers that tell a Scale and the Offsets are none above 2^53, whatever is at fault behind them.
func TestReadSigned(t *testing.T) {
	const big, all = 1 << 53, math.MaxUint64
	for i, c := range []struct {
		l []uint64 // what stands behind the times
		e api.Errno
	}{
		{[]uint64{big, 0, 0, 0}, api.ErrArg},
		{[]uint64{big - 1, 0, 0, 0}, api.ErrArg},
		{[]uint64{big + 1, 0, 0, 0}, api.ErrLarge},
		{[]uint64{big + 2, 0, 0, 0}, api.ErrLarge},
		{[]uint64{all, 0, 0, 0}, api.ErrLarge},
		{[]uint64{all - 1, 0, 0, 0}, api.ErrLarge},

		{[]uint64{0, 0, 1, big, 1, 0}, api.ErrArg},
		{[]uint64{0, 0, 1, big + 1, 1, 0}, api.ErrLarge},
		{[]uint64{0, 0, 1, big + 2, 1, 0}, api.ErrLarge},
		{[]uint64{0, 0, 1, all, 1, 0}, api.ErrLarge},

		{[]uint64{0, 0, 0, 1, big, 1}, api.ErrArg},
		{[]uint64{0, 0, 0, 1, big + 1, 1}, api.ErrLarge},
		{[]uint64{0, 0, 0, 1, big + 2, 1}, api.ErrLarge},
		{[]uint64{0, 0, 0, 1, all, 1}, api.ErrLarge},

		{[]uint64{big}, api.ErrShort},
		{[]uint64{big + 1}, api.ErrLarge},
		{[]uint64{big + 1, 0, 0, 0, 0}, api.ErrLarge},
		{[]uint64{0, 0, 1, big}, api.ErrShort},
		{[]uint64{0, 0, 1, big + 1}, api.ErrLarge},
		{[]uint64{0, 0, 0, 1, big + 1}, api.ErrLarge},
		{[]uint64{42, 0, 1, big + 1, 0, 0}, api.ErrLarge},

		{[]uint64{0, big + 1, 1, 0, big + 1, 1, 0, big + 1}, api.OK},
		{[]uint64{0, all - 2, 1, 0, 1, 1, 0, 1}, api.OK},
	} {
		b := bytesOf("x", append([]uint64{4, 1, 0, 0, 0, 10}, c.l...)...)
		if p, e := point.Read(b); e != c.e || e != api.OK && !point.Same(p, api.Point{}) {
			t.Errorf("%d, %x: %v %d", i, b, p, e)
		}
	}
	if _, e := point.Read(bytesOf("X", 4, 1, 2, 0, 0, 10, big+1, 0, 0, 0)); e != api.ErrLarge {
		t.Errorf("ahead of the label's error: %d", e)
	}
	if _, e := point.Read(append(bytesOf("x", 4, 1, 0, 0, 0, 10), 0xfe, 0x20, 0)); e != api.ErrShort {
		t.Errorf("a Scale's number that isn't whole: %d", e)
	}
	if _, e := point.Read(append(bytesOf("x", 4, 1, 0, 0, 0, 10), 0xff, 0, 0x20, 0, 0, 0, 0, 0, 1)); e != api.ErrForm {
		t.Errorf("a Scale's number in a longer form: %d", e)
	}
}

// P12.3, P12.4: an Int and the outermost Scales and Offsets are read in full.
func TestReadInFull(t *testing.T) {
	for _, v := range []int{math.MinInt, math.MaxInt, 1 << 52, 1<<52 + 1, -1 << 52, -1<<52 - 1, 1 << 53, 1<<53 + 1, -1 << 60} {
		p := but(sum(), func(p *api.Point) { p.Int, p.Mono = v, false })
		b, _ := point.Bytes(p)
		if q, e := point.Read(b); e != api.OK || !point.Same(p, q) {
			t.Errorf("Int %d: %v %d", v, q, e)
		}
	}
	for _, scale := range []int{api.MinScale, api.MaxScale} {
		for _, at := range []int{-api.MaxIndex, api.MaxIndex} {
			s := api.Side{Offset: at, Counts: []uint64{1}}
			p := but(histo(), func(p *api.Point) { p.Hist = api.Hist{Scale: scale, Pos: s, Neg: s} })
			b, e := point.Bytes(p)
			if q, f := point.Read(b); e != api.OK || f != api.OK || !point.Same(p, q) {
				t.Errorf("Scale %d, Offset %d: %v %d %d", scale, at, q, e, f)
			}
		}
	}
}

// P12.4: Read of Bytes, Bytes of Read.
func TestRoundTrip(t *testing.T) {
	rnd := rand.New(rand.NewSource(1))
	for _, p := range []api.Point{sum(), float(), gauge(), phasor(), histo()} {
		b, _ := point.Bytes(p)
		for range 5000 {
			c := bytes.Clone(b)
			for range rnd.Intn(3) {
				c[rnd.Intn(len(c))] ^= 1 << rnd.Intn(8)
			}
			c = c[:len(c)-rnd.Intn(2)*rnd.Intn(len(c))]
			q, e := point.Read(c)
			if e != api.OK {
				continue
			}
			if point.Check(q) != api.OK {
				t.Fatalf("%x: a wrong point", c)
			}
			if d, e := point.Bytes(q); e != api.OK || !bytes.Equal(c, d) {
				t.Fatalf("%x: %x", c, d)
			}
		}
	}
}

// P12.4: Same, Clone, keys.
func TestSame(t *testing.T) {
	l := []api.Point{sum(), float(), gauge(), phasor(), histo(), {}}
	for _, f := range []func(p *api.Point){
		func(p *api.Point) { p.Name = "y" },
		func(p *api.Point) { p.Attrs = []api.Pair{{Key: "a", Val: "2"}} },
		func(p *api.Point) { p.Kind++ },
		func(p *api.Point) { p.Temp++ },
		func(p *api.Point) { p.Mono = !p.Mono },
		func(p *api.Point) { p.Start++ },
		func(p *api.Point) { p.Time++ },

		func(p *api.Point) { p.Int++ },
		func(p *api.Point) { p.Re++ },
		func(p *api.Point) { p.Im++ },
		func(p *api.Point) { p.Hist.Scale++ },
		func(p *api.Point) { p.Hist.Zero++ },
		func(p *api.Point) { p.Hist.Pos.Counts = []uint64{7} },
		func(p *api.Point) { p.Hist.Neg.Offset++ },
		func(p *api.Point) { p.Flags++ },
	} {
		l = append(l, but(sum(), f), but(histo(), f))
	}
	for i, a := range l {
		for k, b := range l {
			if point.Same(a, b) != (i == k) {
				t.Errorf("Same %d, %d", i, k)
			}
			x, e := point.Key(a)
			y, f := point.Key(b)
			alike := a.Name == b.Name && slices.Equal(a.Attrs, b.Attrs) && a.Kind == b.Kind && a.Temp == b.Temp && a.Mono == b.Mono
			if e == api.OK && f == api.OK && (x == y) != alike {
				t.Errorf("Key %d, %d: %q, %q", i, k, x, y)
			}
		}
	}
	a := histo()
	b := but(histo(), func(p *api.Point) { p.Attrs = []api.Pair{p.Attrs[1], p.Attrs[0]} })
	c := point.Clone(a)
	if !point.Same(a, b) || !point.Same(a, c) || !point.Same(sum(), but(sum(), func(p *api.Point) { p.Attrs = []api.Pair{}; p.Hist.Pos.Counts = []uint64{} })) {
		t.Error("Same")
	}
	c.Attrs[0].Key, c.Hist.Pos.Counts[0], c.Hist.Neg.Counts[0] = "z", 9, 9
	if !point.Same(a, b) {
		t.Error("Clone shares memory")
	}
}
