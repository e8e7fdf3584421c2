package convert_test

import (
	"bytes"
	"math"
	"math/rand"
	"strconv"
	"testing"

	"limnograph/api"
	"limnograph/convert"
	"limnograph/hist"
	"limnograph/pack"
	"limnograph/point"
	"limnograph/tocum"
	"limnograph/todelta"
)

// cfg is a right configuration.
func cfg(out int) api.Config {
	return api.Config{Out: out, Series: 4, Buckets: 5}
}

// sum is a whole sum.
func sum(name string, temp, start, time, v int) api.Point {
	return api.Point{Name: name, Kind: api.IntSum, Temp: temp, Start: start, Time: time, Int: v}
}

// gauge is a gauge.
func gauge(time int) api.Point {
	return api.Point{Name: "g", Kind: api.Gauge, Start: time, Time: time, Re: 7}
}

// histo is a histogram.
func histo(name string, temp, start, time int, counts ...uint64) api.Point {
	return api.Point{Name: name, Kind: api.Histo, Temp: temp, Start: start, Time: time, Hist: api.Hist{Pos: api.Side{Counts: counts}}}
}

// P17.1.
func TestGood(t *testing.T) {
	for i, c := range []struct {
		cfg api.Config
		ok  bool
	}{
		{cfg(0), true},
		{cfg(1), true},
		{cfg(2), true},
		{cfg(3), false},
		{cfg(-1), false},
		{api.Config{Series: 1, Buckets: 1}, true},
		{api.Config{Series: 16, Buckets: 160}, true},
		{api.Config{Series: 0, Buckets: 1}, false},
		{api.Config{Series: 17, Buckets: 1}, false},

		{api.Config{Series: 1, Buckets: 0}, false},
		{api.Config{Series: 1, Buckets: 161}, false},
		{api.Config{Series: math.MinInt, Buckets: math.MaxInt}, false},
	} {
		if convert.Good(c.cfg) != c.ok || (convert.New(c.cfg) != nil) != c.ok {
			t.Errorf("%d", i)
		}
		if _, e := convert.Load(c.cfg, []byte{0}); (e == api.OK) != c.ok || !c.ok && e != api.ErrArg {
			t.Errorf("Load %d: %d", i, e)
		}
	}
	if convert.New(cfg(0)).Len() != 0 || !bytes.Equal(convert.New(cfg(0)).Save(), []byte{0}) {
		t.Error("a new one has series")
	}
}

// P17.2: the errors.
func TestErrors(t *testing.T) {
	flagged := sum("a", 1, 5, 6, 1)
	flagged.Flags = 1
	c := convert.New(cfg(api.Delta))
	wide := histo("h", 1, 0, 9, 1, 1)
	wide.Hist.Scale = -10
	wide.Hist.Pos.Counts = []uint64{1, 1, 1, 1, 1, 1}
	for i, x := range []struct {
		p api.Point
		e api.Errno
	}{
		{api.Point{}, api.ErrForm},
		{sum("a", 0, 0, 1, 1), api.ErrKind},
		{flagged, api.ErrForm},
		{wide, api.ErrLarge},
		{gauge(10), api.OK},
		{gauge(10), api.ErrOrder},
		{gauge(9), api.ErrOrder},
		{gauge(11), api.OK},
		{sum("a", 1, 5, 10, 3), api.OK},
		{sum("a", 1, 5, 10, 3), api.ErrOrder},
		{sum("a", 1, 6, 11, 3), api.ErrOverlap},

		{sum("b", 2, 5, 10, 3), api.OK},
		{sum("b", 2, 5, 10, 3), api.ErrOrder},
		{sum("b", 2, 9, 11, 3), api.ErrOverlap},
		{sum("b", 2, 10, 11, 3), api.OK},
		{histo("h", 1, 0, 9, 1, 1), api.OK},
		{sum("z", 1, 0, 1, 1), api.ErrFull},
		{flagged, api.ErrForm},
		{wide, api.ErrLarge},
		{sum("a", 2, 5, 10, 3), api.ErrFull},
		{sum("a", 1, 5, 11, 4), api.OK},
	} {
		before := c.Save()
		p, e := c.Take(x.p)
		if e != x.e {
			t.Errorf("%d: %d", i, e)
		}
		if e != api.OK && (!bytes.Equal(before, c.Save()) || !point.Same(p, api.Point{})) {
			t.Errorf("%d: something is changed", i)
		}
	}
	if c.Len() != 4 {
		t.Errorf("%d", c.Len())
	}
}

// P17.2: what passes.
func TestPass(t *testing.T) {
	for _, out := range []int{api.AsIs, api.Delta} {
		c := convert.New(cfg(out))
		for i, x := range []struct {
			p     api.Point
			flags int
		}{{gauge(10), api.First}, {gauge(20), 0}, {sum("b", 2, 5, 10, 3), api.First}, {sum("b", 2, 10, 11, -3), 0}, {sum("b", 2, 13, 14, 4), api.Gap}} {
			p, e := c.Take(x.p)
			want := x.p
			want.Flags = x.flags
			if e != api.OK || !point.Same(p, want) {
				t.Errorf("out %d, %d: %v %d", out, i, p, e)
			}
		}
	}
	c := convert.New(cfg(api.AsIs))
	for i, x := range []struct {
		p     api.Point
		flags int
	}{{sum("a", 1, 5, 10, 3), api.First}, {sum("a", 1, 20, 21, 3), 0}, {sum("a", 1, 2, 22, 3), 0}} {
		if p, e := c.Take(x.p); e != api.OK || p.Flags != x.flags || p.Temp != 1 || p.Start != x.p.Start {
			t.Errorf("%d: %v %d", i, p, e)
		}
	}
	if p, e := c.Take(histo("h", 1, 0, 9, 1, 2, 3, 4, 5, 6)); e != api.OK || !hist.Same(p.Hist, api.Hist{Scale: -1, Pos: api.Side{Counts: []uint64{3, 7, 11}}}) {
		t.Errorf("%v %d", p, e)
	}
}

// P17.2: what is turned.
func TestTurned(t *testing.T) {
	for _, c := range []struct {
		out, temp int
		next      func(api.State, api.Point, int) (api.State, api.Point, api.Errno)
	}{{api.Delta, api.Cumul, todelta.Next}, {api.Cumul, api.Delta, tocum.Next}} {
		x, s := convert.New(cfg(c.out)), api.State{}
		for i := range 5 {
			p := histo("h", c.temp, 0, 10*i+10, uint64(i+1), uint64(2*i+3), 9, 9, 9, 9, 10)
			if c.temp == api.Delta {
				p.Start = 10 * i
			}
			next, want, _ := c.next(s, p, 5)
			if got, e := x.Take(p); e != api.OK || !point.Same(got, want) || got.Temp != c.out {
				t.Errorf("%v: %v %d", p, got, e)
			}
			s = next
		}
	}
}

// saved is the bytes of states as points.
func saved(l ...api.Point) []byte {
	w := pack.NewWriter()
	w.Num(uint64(len(l)))
	for _, p := range l {
		b, _ := point.Bytes(p)
		w.Text(string(b))
	}
	return w.Bytes()
}

// P17.3: Save.
func TestSave(t *testing.T) {
	c := convert.New(cfg(api.Delta))
	c.Take(sum("b", 1, 0, 10, 3))
	c.Take(sum("b", 1, 0, 20, 5))
	c.Take(gauge(4))
	c.Take(sum("a", 2, 0, 10, 3))
	g := gauge(4)
	g.Re = 0
	if want := saved(sum("a", 2, 0, 10, 0), sum("b", 1, 0, 20, 5), g); !bytes.Equal(c.Save(), want) {
		t.Errorf("%x, not %x", c.Save(), want)
	}
	d := convert.New(cfg(api.Cumul))
	d.Take(sum("b", 2, 5, 10, 3))
	d.Take(sum("b", 2, 10, 20, 5))
	if want := saved(sum("b", 2, 5, 20, 8)); !bytes.Equal(d.Save(), want) {
		t.Errorf("%x, not %x", d.Save(), want)
	}
}

// P17.3: the errors of Load.
func TestLoad(t *testing.T) {
	flagged, scaled := sum("b", 1, 0, 1, 1), histo("h", 2, 0, 1)
	flagged.Flags, scaled.Hist.Scale = 1, 1
	text := func(s string) []byte {
		w := pack.NewWriter()
		w.Num(1)
		w.Text(s)
		return w.Bytes()
	}
	neg := histo("h", 1, 0, 1)
	neg.Hist.Neg.Counts = []uint64{1, 1, 1, 1, 1}
	wide := histo("h", 1, 0, 1)
	wide.Hist.Neg.Counts = []uint64{1, 1, 1, 1, 1, 1}
	five := saved(sum("a", 1, 0, 1, 1), sum("b", 1, 0, 1, 1), sum("c", 1, 0, 1, 1), sum("d", 1, 0, 1, 1), sum("e", 1, 0, 1, 1))
	for i, x := range []struct {
		b []byte
		e api.Errno
	}{
		{nil, api.ErrShort},
		{[]byte{0}, api.OK},
		{[]byte{0, 0}, api.ErrForm},
		{five, api.ErrLarge},
		{[]byte{1}, api.ErrShort},
		{text(string(make([]byte, 65537))), api.ErrLarge},
		{text(""), api.ErrShort},
		{text("\x01x\x09\x00\x00\x00\x00\x01"), api.ErrKind},
		{saved(sum("b", 1, 0, 1, 1)), api.OK},
		{saved(flagged), api.ErrForm},

		{saved(sum("b", 2, 0, 1, 1)), api.ErrForm},
		{saved(sum("b", 2, 0, 1, 0)), api.OK},
		{saved(gauge(1)), api.ErrForm},
		{saved(histo("h", 2, 0, 1)), api.OK},
		{saved(scaled), api.ErrForm},
		{saved(histo("h", 2, 0, 1, 1)), api.ErrForm},
		{saved(histo("h", 1, 0, 1, 1, 1, 1, 1, 1)), api.OK},
		{saved(histo("h", 1, 0, 1, 1, 1, 1, 1, 1, 1)), api.ErrLarge},

		{saved(sum("b", 1, 0, 1, 1), sum("b", 1, 0, 1, 1)), api.ErrOrder},
		{saved(sum("b", 1, 0, 1, 1), sum("a", 1, 0, 1, 1)), api.ErrOrder},
		{saved(sum("a", 1, 0, 1, 1), sum("b", 1, 0, 1, 1)), api.OK},
		{append(saved(sum("a", 1, 0, 1, 1)), 0), api.ErrForm},
		{saved(neg), api.OK},
		{saved(wide), api.ErrLarge},
		{append([]byte{2}, saved(sum("a", 1, 0, 1, 1))[1:]...), api.ErrShort},

		{text("\x01h\x04\x01\x00\x00\x00\x0a\xfe\x20\x00\x00\x00\x00\x00\x00\x00\x00\x00"), api.ErrArg},
		{text("\x01h\x04\x01\x00\x00\x00\x0a\xfe\x20\x00\x00\x00\x00\x00\x01\x00\x00\x00"), api.ErrLarge},
		{text("\x01h\x04\x01\x00\x01\x00\x0a\x00\x00\x01\xfe\x20\x00\x00\x00\x00\x00\x02\x01\x00"), api.ErrLarge},
	} {
		c, e := convert.Load(cfg(api.Delta), x.b)
		if e != x.e || (c != nil) != (e == api.OK) {
			t.Errorf("%d: %d", i, e)
		}
		if e == api.OK && !bytes.Equal(c.Save(), x.b) {
			t.Errorf("%d: %x", i, c.Save())
		}
	}
}

// some is a point of some series, mostly behind the last one.
func some(rnd *rand.Rand, time int) api.Point {
	k := rnd.Intn(6)
	p := api.Point{Name: "s" + strconv.Itoa(k), Kind: 1 + k%5, Temp: 1 + rnd.Intn(2)*rnd.Intn(2), Start: max(0, time-rnd.Intn(8)), Time: time + rnd.Intn(3)}
	switch p.Kind {
	case api.IntSum:
		p.Int, p.Mono = rnd.Intn(100), rnd.Intn(4) > 0
	case api.FloatSum:
		p.Re = math.Float64bits(float64(rnd.Intn(100)) / 3)
	case api.Gauge:
		p.Temp, p.Start, p.Re = 0, p.Time, rnd.Uint64()
	case api.Phasor:
		p.Re, p.Im = math.Float64bits(float64(rnd.Intn(100))), rnd.Uint64()
	case api.Histo:
		p.Hist = api.Hist{
			Scale: rnd.Intn(3),
			Zero:  uint64(rnd.Intn(3)),
			Pos:   api.Side{Offset: rnd.Intn(5), Counts: []uint64{uint64(1 + time), uint64(rnd.Intn(3)), uint64(1 + time)}},
		}
	}
	if rnd.Intn(3) == 0 {
		p.Start = 0
	}
	if p.Kind == api.Gauge {
		p.Start = p.Time
	}
	return p
}

// P17.4.
func TestGoOn(t *testing.T) {
	rnd := rand.New(rand.NewSource(1))
	taken := 0
	for range 200 {
		cfg := cfg(rnd.Intn(3))
		a := convert.New(cfg)
		b := convert.New(cfg)
		for i := range 60 {
			switch rnd.Intn(4) {
			case 0:
				was := b.Save()
				x, e := convert.Load(cfg, was)
				if e != api.OK || !bytes.Equal(x.Save(), was) {
					t.Fatalf("Load: %d", e)
				}
				b = x
			case 1:
				x := b.Clone()
				b.Take(some(rnd, 5*i))
				b = x
			}
			p := some(rnd, 5*i)
			x, e := a.Take(p)
			y, f := b.Take(p)
			if e != f || !point.Same(x, y) || a.Len() != b.Len() || a.Len() > cfg.Series || !bytes.Equal(a.Save(), b.Save()) {
				t.Fatalf("%v: %v %d, %v %d", p, x, e, y, f)
			}
			if e != api.OK {
				continue
			}
			taken++
			if point.Check(x) != api.OK || x.Name != p.Name || x.Kind != p.Kind || x.Mono != p.Mono || p.Kind != api.Gauge && cfg.Out != api.AsIs && x.Temp != cfg.Out || len(x.Hist.Pos.Counts) > cfg.Buckets {
				t.Fatalf("%v: %v", p, x)
			}
		}
	}
	if taken < 3000 {
		t.Errorf("%d", taken)
	}
	in := histo("h", 1, 0, 9, 1, 2)
	in.Attrs = []api.Pair{{Key: "k", Val: "v"}}
	c := convert.New(cfg(api.AsIs))
	p, _ := c.Take(in)
	was := c.Save()
	in.Attrs[0].Key, in.Hist.Pos.Counts[0], p.Attrs[0].Key = "z", 7, "y"
	if !bytes.Equal(was, c.Save()) || p.Hist.Pos.Counts[0] != 1 {
		t.Error("memory is shared")
	}
}
