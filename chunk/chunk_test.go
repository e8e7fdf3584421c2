package chunk_test

import (
	"bytes"
	"math"
	"math/rand"
	"strings"
	"testing"

	"limnograph/api"
	"limnograph/bitio"
	"limnograph/chunk"
	"limnograph/pack"
	"limnograph/point"
	"limnograph/vary"
	"limnograph/xor"
)

// sum is a whole sum up to a time.
func sum(time, v int) api.Point {
	return api.Point{Name: "x", Attrs: []api.Pair{{Key: "b", Val: "2"}, {Key: "a", Val: "1"}}, Kind: api.IntSum, Temp: api.Delta, Start: time - 1, Time: time, Int: v}
}

// some are items of one series.
func some(rnd *rand.Rand, kind, n int) []api.Item {
	var l []api.Item
	ord, time := rnd.Intn(3), rnd.Intn(100)
	temp := 1 + rnd.Intn(2)
	for range n {
		p := api.Point{Name: "s", Kind: kind, Temp: temp, Flags: rnd.Intn(2) * rnd.Intn(32)}
		span := 1 + rnd.Intn(20)
		time += span + rnd.Intn(2)*rnd.Intn(50)
		p.Start, p.Time = time-span, time
		switch kind {
		case api.IntSum:
			p.Int = rnd.Intn(1000) - 500
			if rnd.Intn(5) == 0 {
				p.Int = int(rnd.Uint64())
			}
		case api.FloatSum, api.Gauge:
			p.Re = math.Float64bits(float64(rnd.Intn(20)) / 4)
		case api.Phasor:
			p.Re, p.Im = math.Float64bits(float64(rnd.Intn(20))), rnd.Uint64()
		case api.Histo:
			p.Hist = api.Hist{Scale: rnd.Intn(3), Zero: uint64(rnd.Intn(5)), Pos: api.Side{Offset: rnd.Intn(3), Counts: []uint64{1 + rnd.Uint64()>>40, uint64(rnd.Intn(9)), 3}}}
		}
		if kind == api.Gauge {
			p.Temp, p.Start = api.AsIs, p.Time
		}
		l = append(l, api.Item{Ord: ord, Point: p})
		ord += 1 + rnd.Intn(2)*rnd.Intn(4)
	}
	return l
}

// same tells whether items are the same.
func same(a, b []api.Item) bool {
	if len(a) != len(b) {
		return false
	}
	for i := range a {
		if a[i].Ord != b[i].Ord || !point.Same(a[i].Point, b[i].Point) {
			return false
		}
	}
	return true
}

// P13.1: Series.
func TestSeries(t *testing.T) {
	for _, c := range []struct {
		key string
		e   api.Errno
	}{
		{"x;a=1;b=2 120", api.OK},
		{"x 111", api.OK},
		{"x 210", api.OK},
		{"x 211", api.OK},
		{"x 300", api.OK},
		{"x 410", api.OK},
		{"x 520", api.OK},
		{"", api.ErrForm},
		{" 111", api.ErrForm},
		{"111", api.ErrForm},
		{"x111", api.ErrForm},
		{"x 11", api.ErrForm},
		{"x 1111", api.ErrForm},
		{"x  111", api.ErrForm},

		{"X 111", api.ErrForm},
		{"x;b=1;a=2 120", api.ErrForm},
		{"x 110 ", api.ErrForm},
		{"x 011", api.ErrForm},
		{"x 611", api.ErrForm},
		{"x 101", api.ErrForm},
		{"x 131", api.ErrForm},
		{"x 112", api.ErrForm},
		{"x 301", api.ErrForm},
		{"x 310", api.ErrForm},
		{"x 411", api.ErrForm},
		{"x 511", api.ErrForm},
		{"x 11/", api.ErrForm},
		{"x :11", api.ErrForm},
		{"x /11", api.ErrForm},
		{"x\x00111", api.ErrForm},
	} {
		p, e := chunk.Series(c.key)
		if e != c.e || e != api.OK && !point.Same(p, api.Point{}) {
			t.Errorf("%q: %v %d", c.key, p, e)
		}
	}
	p, _ := chunk.Series("x;a=1;b=2 211")
	if !point.Same(p, api.Point{Name: "x", Attrs: []api.Pair{{Key: "a", Val: "1"}, {Key: "b", Val: "2"}}, Kind: 2, Temp: 1, Mono: true}) || p.Attrs[0].Key != "a" {
		t.Errorf("%v", p)
	}
}

// P13.1, P13.2: New, Add.
func TestAdd(t *testing.T) {
	if c, e := chunk.New(api.Point{}, 1000); c != nil || e != api.ErrForm {
		t.Errorf("New: %d", e)
	}
	c, e := chunk.New(sum(5, 1), 1000)
	if e != api.OK || c.Key() != "x;a=1;b=2 120" || c.Len() != 0 || c.Last() != -1 || c.Size() != len(c.Bytes()) {
		t.Fatalf("New: %d", e)
	}
	other := sum(5, 1)
	other.Mono = true
	for i, x := range []struct {
		ord int
		p   api.Point
		e   api.Errno
	}{
		{-1, api.Point{}, api.ErrForm},
		{-1, other, api.ErrKind},
		{-1, sum(5, 1), api.ErrArg},
		{api.MaxOrd + 1, sum(5, 1), api.ErrArg},
		{3, sum(5, 1), api.OK},
		{3, sum(6, 1), api.ErrOrder},
		{0, sum(6, 1), api.ErrOrder},
		{4, sum(2, 1), api.OK},
		{api.MaxOrd, sum(9, -7), api.OK},
		{api.MaxOrd + 1, sum(9, -7), api.ErrArg},
	} {
		before := c.Bytes()
		if e := c.Add(x.ord, x.p); e != x.e || e != api.OK && !bytes.Equal(before, c.Bytes()) {
			t.Errorf("%d: %d", i, e)
		}
	}
	if c.Len() != 3 || c.Last() != api.MaxOrd || c.Size() != len(c.Bytes()) {
		t.Errorf("%d %d", c.Len(), c.Last())
	}
	big, _ := chunk.New(sum(1, 1), math.MaxInt)
	for i := range 128 {
		if e := big.Add(i, sum(i+1, i)); e != api.OK {
			t.Fatalf("%d: %d", i, e)
		}
	}
	if e := big.Add(128, sum(200, 1)); e != api.ErrFull || big.Len() != 128 {
		t.Errorf("%d", e)
	}
}

// P13.2: a bound on the size.
func TestMost(t *testing.T) {
	for most := -1; most < 120; most++ {
		c, _ := chunk.New(sum(1, 1), most)
		free, _ := chunk.New(sum(1, 1), 1000)
		for i := range 20 {
			p := sum(i+1, i*i*i*i*i)
			e := c.Add(i, p)
			f := free.Add(i, p)
			if (e == api.OK) != (free.Size() <= most) || e != api.OK && e != api.ErrFull || f != api.OK {
				t.Fatalf("most %d, point %d: %d", most, i, e)
			}
			if e != api.OK {
				if e := c.Add(i, sum(i+1, 0)); e == api.OK && c.Size() > most {
					t.Fatalf("most %d: %d", most, c.Size())
				}
				break
			}
			if !bytes.Equal(c.Bytes(), free.Bytes()) || c.Size() != len(c.Bytes()) {
				t.Fatalf("most %d, point %d", most, i)
			}
		}
	}
}

// P13.2: the form.
func TestForm(t *testing.T) {
	b, e := chunk.Pack([]api.Item{{Ord: 0, Point: api.Point{Name: "x", Kind: api.Gauge, Start: 10, Time: 10}}})
	w := pack.NewWriter()
	w.Text("x 300")
	w.Num(1)
	w.Num(77)
	w.Raw([]byte{0b00010010, 0b10000000, 0, 0, 0, 0, 0, 0, 0, 0})
	if e != api.OK || !bytes.Equal(b, w.Bytes()) {
		t.Errorf("%x %d", b, e)
	}
	p := api.Point{Name: "y", Kind: api.Phasor, Temp: api.Delta, Start: 2, Time: 5, Re: 1, Im: 2, Flags: 9}
	q := api.Point{Name: "y", Kind: api.Phasor, Temp: api.Delta, Start: 5, Time: 9, Re: 4, Im: 8}
	bits := bitio.NewWriter()
	ord, time, span, re, im := vary.NewRow(), vary.NewRow(), vary.NewRow(), xor.NewRow(), xor.NewRow()
	for i, p := range []api.Point{p, q} {
		ord.Put(bits, i+7)
		time.Put(bits, p.Time)
		span.Put(bits, p.Time-p.Start)
		vary.Put(bits, uint64(p.Flags))
		re.Put(bits, p.Re)
		im.Put(bits, p.Im)
	}
	w = pack.NewWriter()
	w.Text("y 520")
	w.Num(2)
	w.Num(uint64(bits.Len()))
	w.Raw(bits.Bytes())
	if b, e := chunk.Pack([]api.Item{{Ord: 7, Point: p}, {Ord: 8, Point: q}}); e != api.OK || !bytes.Equal(b, w.Bytes()) {
		t.Errorf("%x %d", b, e)
	}
}

// P13.3: the errors of Pack.
func TestPack(t *testing.T) {
	many := make([]api.Item, 129)
	for i := range many {
		many[i] = api.Item{Ord: i, Point: sum(i+1, 1)}
	}
	for i, c := range []struct {
		l []api.Item
		e api.Errno
	}{
		{nil, api.ErrNone},
		{[]api.Item{{Ord: -1}}, api.ErrForm},
		{[]api.Item{{Ord: -1, Point: sum(1, 1)}}, api.ErrArg},
		{[]api.Item{{Ord: 1, Point: sum(1, 1)}, {Ord: 1, Point: sum(2, 1)}, {}}, api.ErrOrder},
		{many, api.ErrFull},
		{many[:128], api.OK},
	} {
		if b, e := chunk.Pack(c.l); e != c.e || (b != nil) != (e == api.OK) {
			t.Errorf("%d: %d", i, e)
		}
	}
}

// raw is the bytes of a chunk of gauges "g", whose bits a text tells.
func raw(key string, n, count uint64, bits string, rest ...byte) []byte {
	b := bitio.NewWriter()
	for _, c := range strings.ReplaceAll(bits, " ", "") {
		b.Put(uint64(c-'0'), 1)
	}
	w := pack.NewWriter()
	w.Text(key)
	w.Num(n)
	w.Num(count)
	w.Raw(b.Bytes())
	w.Raw(rest)
	return w.Bytes()
}

// P13.4.
func TestRead(t *testing.T) {
	zeros := strings.Repeat("0", 64)
	one := "00 00 00" + zeros
	for i, c := range []struct {
		b []byte
		e api.Errno
	}{
		{nil, api.ErrShort},
		{raw(strings.Repeat("x", 421), 0, 0, ""), api.ErrLarge},
		{raw(strings.Repeat("x", 420), 0, 0, ""), api.ErrForm},
		{raw("g 300", 129, 0, ""), api.ErrLarge},
		{raw("g 300", 128, 0, ""), api.ErrShort},
		{raw("g 300", 0, 1<<24+1, ""), api.ErrLarge},
		{raw("g 300", 0, 1<<24, ""), api.ErrShort},

		{raw("g 300", 0, 0, ""), api.OK},
		{raw("g 300", 0, 0, "", 0), api.ErrForm},
		{raw("g 30", 0, 1, "1", 0), api.ErrForm},
		{raw("g 30", 0, 1, "01"), api.ErrForm},
		{raw("g 300", 0, 1, "01"), api.ErrForm},
		{raw("g 300", 0, 1, "1"), api.ErrForm},
		{raw("g 300", 1, 70, one), api.OK},
		{raw("g 300", 1, 71, one+"0"), api.ErrForm},
		{raw("g 300", 1, 69, one[:72-1]), api.ErrShort},

		{raw("g 300", 1, 77, "01 0000000"+one[2:]), api.ErrForm},
		{raw("g 300", 1, 77, "01 0000001"+one[2:]), api.ErrArg},
		{raw("g 300", 1, 77, "00 01 0000001 00"+zeros), api.ErrArg},
		{raw("g 300", 1, 73, "01 0000001 00 00"+zeros[:60]), api.ErrShort},

		{raw("g 300", 1, 90, "00 00 10 00000000000010000000"+zeros), api.ErrForm},
		{raw("g 300", 1, 77, "00 00 01 0100000"+zeros), api.ErrForm},
		{raw("g 300", 1, 77, "00 00 01 0011111"+zeros), api.OK},
		{raw("g 300", 2, 77, one+"00 00 00 0"), api.ErrOrder},
		{raw("g 300", 2, 84, one+"01 0000010 00 00 0"), api.OK},
		{raw("g 300", 2, 84, one+"01 0000001 00 00 0"), api.ErrArg},

		{raw("x 120", 1, 8, "00 00 00 00 00"), api.ErrForm},
		{raw("x 120", 1, 10, "00 00 00 00 00"), api.ErrArg},
		{raw("x 120", 1, 24, "00 01 0000100 01 0000100 00 00"), api.OK},
		{raw("x 120", 1, 24, "00 01 0000100 01 0000110 00 00"), api.ErrArg},
		{raw("x 120", 1, 24, "00 01 0000100 01 0000011 00 00"), api.ErrArg},

		{raw("x 121", 1, 31, "00 01 0000100 01 0000100 00 01 0000001"), api.ErrArg},
		{raw("x 111", 1, 31, "00 01 0000100 01 0000100 00 01 0000010"), api.OK},
		{raw("x 420", 1, 42, "00 01 0000100 01 0000100 00 0 11111 00000000 00000000 0"), api.ErrShort},
		{raw("x 420", 1, 46, "00 01 0000100 01 0000100 00 0 11111 00000000 00000000 00"), api.ErrArg},
	} {
		l, e := chunk.Read(c.b)
		if e != c.e || e != api.OK && l != nil {
			t.Errorf("%d: %v %d", i, l, e)
		}
		if e == api.OK && len(l) > 0 {
			if b, f := chunk.Pack(l); f != api.OK || !bytes.Equal(b, c.b) {
				t.Errorf("%d: %x, not %x", i, b, c.b)
			}
		}
	}
	for _, c := range []struct {
		ord, time int
		e         api.Errno
	}{
		{api.MaxOrd, 0, api.OK},
		{api.MaxOrd + 1, 0, api.ErrArg},
		{0, api.MaxTime, api.OK},
		{0, api.MaxTime + 1, api.ErrArg},
		{math.MinInt, 0, api.ErrArg},
		{0, math.MinInt, api.ErrArg},
	} {
		w := bitio.NewWriter()
		vary.NewRow().Put(w, c.ord)
		vary.NewRow().Put(w, c.time)
		w.Put(0, 2)
		w.Put(0, 64)
		b := pack.NewWriter()
		b.Text("g 300")
		b.Num(1)
		b.Num(uint64(w.Len()))
		b.Raw(w.Bytes())
		if _, e := chunk.Read(b.Bytes()); e != c.e {
			t.Errorf("ordinal %d at %d: %d", c.ord, c.time, e)
		}
	}
}

// P13.5.
func TestRoundTrip(t *testing.T) {
	rnd := rand.New(rand.NewSource(1))
	read := 0
	for range 400 {
		l := some(rnd, 1+rnd.Intn(5), 1+rnd.Intn(12))
		b, e := chunk.Pack(l)
		if e != api.OK {
			t.Fatalf("%v: %d", l, e)
		}
		got, e := chunk.Read(b)
		if e != api.OK || !same(got, l) {
			t.Fatalf("%v: %v %d", l, got, e)
		}
		for range 100 {
			c := bytes.Clone(b)
			c[rnd.Intn(len(c))] ^= 1 << rnd.Intn(8)
			got, e := chunk.Read(c)
			if e != api.OK {
				continue
			}
			read++
			if d, e := chunk.Pack(got); len(got) > 0 && (e != api.OK || !bytes.Equal(c, d)) {
				t.Fatalf("%x: %x %d", c, d, e)
			}
		}
	}
	if read < 1000 {
		t.Errorf("%d", read)
	}
}

// P13.5: memory.
func TestMemory(t *testing.T) {
	h := api.Point{Name: "h", Attrs: []api.Pair{{Key: "a", Val: "1"}}, Kind: api.Histo, Temp: api.Delta, Time: 1, Hist: api.Hist{Pos: api.Side{Counts: []uint64{5}}}}
	c, _ := chunk.New(h, 1000)
	c.Add(0, h)
	h.Hist.Pos.Counts[0], h.Attrs[0].Key = 7, "z"
	h = point.Clone(h)
	h.Attrs[0].Key, h.Time = "a", 2
	c.Add(1, h)
	out := c.Bytes()
	l, e := chunk.Read(out)
	if e != api.OK || len(l) != 2 || l[0].Point.Hist.Pos.Counts[0] != 5 || l[1].Point.Hist.Pos.Counts[0] != 7 {
		t.Fatalf("%v %d", l, e)
	}
	out[0]++
	l[0].Point.Attrs[0].Val = "9"
	if l[1].Point.Attrs[0].Val != "1" || c.Bytes()[0] == out[0] {
		t.Error("answers share memory")
	}
}
