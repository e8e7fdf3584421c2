package segment_test

import (
	"bytes"
	"math"
	"math/rand"
	"strconv"
	"testing"

	"limnograph/api"
	"limnograph/chunk"
	"limnograph/pack"
	"limnograph/point"
	"limnograph/segment"
)

// cfg is a right configuration.
func cfg() api.Config {
	return api.Config{Points: 3, Bytes: 1000}
}

// sum is a whole sum.
func sum(name string, time, v int) api.Point {
	return api.Point{Name: name, Kind: api.IntSum, Temp: api.Delta, Start: time - 1, Time: time, Int: v, Flags: time % 2}
}

// raw is bytes of numbers and chunks of items.
func raw(first, n, count int, l ...[]api.Item) []byte {
	w := pack.NewWriter()
	w.Num(uint64(first))
	w.Num(uint64(n))
	w.Num(uint64(count))
	for _, items := range l {
		b, _ := chunk.Pack(items)
		w.Text(string(b))
	}
	return w.Bytes()
}

// items are sums of a name, with ordinals.
func items(name string, ords ...int) []api.Item {
	var l []api.Item
	for _, n := range ords {
		l = append(l, api.Item{Ord: n, Point: sum(name, 5, n)})
	}
	return l
}

// P21.1: Good.
func TestGood(t *testing.T) {
	for _, c := range []struct {
		points, bytes int
		ok            bool
	}{{1, 64, true}, {128, 65536, true}, {0, 64, false}, {129, 64, false}, {1, 63, false}, {1, 65537, false}, {math.MinInt, math.MaxInt, false}} {
		x := api.Config{Points: c.points, Bytes: c.bytes}
		_, e := segment.Encode(x, 0, []api.Point{sum("a", 1, 1)})
		if segment.Good(x) != c.ok || (e == api.OK) != c.ok || !c.ok && e != api.ErrArg {
			t.Errorf("%v: %d", c, e)
		}
	}
}

// P21.1: the errors of Encode.
func TestErrors(t *testing.T) {
	many := make([]api.Point, api.MaxHead+1)
	for i := range many {
		many[i] = sum("a", i+1, i)
	}
	long := sum("a", 1, 1)
	long.Attrs = []api.Pair{{Key: "k", Val: string(bytes.Repeat([]byte("v"), 32))}}
	small := api.Config{Points: 3, Bytes: 64}
	for _, k := range []string{"l", "m"} {
		long.Attrs = append(long.Attrs, api.Pair{Key: k, Val: long.Attrs[0].Val})
	}
	h := api.Point{Name: "h", Kind: api.Histo, Temp: api.Delta, Time: 1}
	for range 160 {
		h.Hist.Pos.Counts = append(h.Hist.Pos.Counts, 1<<50)
		h.Hist.Neg.Counts = append(h.Hist.Neg.Counts, 1<<50)
	}
	var big []api.Point
	for i := range 50 {
		p := point.Clone(h)
		p.Start, p.Time, p.Hist.Pos.Offset, p.Hist.Neg.Offset = i, i+1, i%2, i
		big = append(big, p)
	}
	wide := api.Config{Points: 128, Bytes: 65536}
	for i, c := range []struct {
		cfg   api.Config
		first int
		l     []api.Point
		e     api.Errno
	}{
		{cfg(), 0, nil, api.ErrArg},
		{cfg(), 0, many, api.ErrArg},
		{cfg(), 5, many[1:], api.OK},
		{cfg(), -1, many[:1], api.ErrArg},
		{cfg(), api.MaxOrd, many[:1], api.OK},
		{cfg(), api.MaxOrd, many[:2], api.ErrArg},
		{cfg(), api.MaxOrd + 1, many[:1], api.ErrArg},
		{cfg(), math.MaxInt, many[:2], api.ErrArg},

		{cfg(), math.MinInt, many[:2], api.ErrArg},
		{cfg(), 0, []api.Point{sum("a", 1, 1), {}}, api.ErrForm},
		{small, 0, []api.Point{sum("a", 1, 1), long}, api.ErrLarge},
		{small, 0, []api.Point{long, {}}, api.ErrForm},
		{cfg(), 0, []api.Point{long}, api.OK},
		{wide, 0, big, api.ErrLarge},
		{wide, 0, big[:10], api.OK},
	} {
		if b, e := segment.Encode(c.cfg, c.first, c.l); e != c.e || (b != nil) != (e == api.OK) || len(b) > api.MaxPayload {
			t.Errorf("%d: %d", i, e)
		}
	}
}

// P21.1: the form.
func TestForm(t *testing.T) {
	b, _ := segment.Encode(cfg(), 7, []api.Point{sum("a", 1, 1)})
	if want := raw(7, 1, 1, []api.Item{{Ord: 7, Point: sum("a", 1, 1)}}); !bytes.Equal(b, want) {
		t.Errorf("%x, not %x", b, want)
	}
	var l []api.Point
	for i := range 10 {
		l = append(l, sum([]string{"b", "a"}[i%2], i+1, i))
	}
	of := func(ords ...int) []api.Item {
		var out []api.Item
		for _, n := range ords {
			out = append(out, api.Item{Ord: n, Point: l[n-5]})
		}
		return out
	}
	b, _ = segment.Encode(cfg(), 5, l)
	if want := raw(5, 10, 4, of(6, 8, 10), of(12, 14), of(5, 7, 9), of(11, 13)); !bytes.Equal(b, want) {
		t.Errorf("%x, not %x", b, want)
	}
	var many []api.Point
	for i := range 100 {
		many = append(many, sum("a", 1000*i*i+1, i*i*i*i))
	}
	b, _ = segment.Encode(api.Config{Points: 128, Bytes: 64}, 0, many)
	chunks, e := segment.Chunks(b)
	if e != api.OK || len(chunks) < 3 {
		t.Errorf("%d chunks", len(chunks))
	}
	at := 0
	for i, c := range chunks {
		items, _ := chunk.Read(c)
		at += len(items)
		if len(c) > 64 {
			t.Errorf("chunk %d has %d bytes", i, len(c))
		}
		if at < 100 {
			if more, _ := chunk.Pack(append(items, api.Item{Ord: at, Point: many[at]})); len(more) <= 64 {
				t.Errorf("chunk %d would take one more", i)
			}
		}
	}
}

// P21.2: the errors.
func TestDecode(t *testing.T) {
	with := func(b []byte, more ...byte) []byte { return append(bytes.Clone(b), more...) }
	one := raw(7, 1, 1, items("a", 7))
	empty, _ := chunk.New(sum("a", 1, 1), 1000)
	none := pack.NewWriter()
	none.Raw([]byte{7, 1, 1})
	none.Text(string(empty.Bytes()))
	for i, c := range []struct {
		b []byte
		e api.Errno
	}{
		{nil, api.ErrShort},
		{raw(api.MaxOrd+1, 1, 1), api.ErrLarge},
		{raw(0, 257, 1), api.ErrLarge},
		{raw(0, 256, 257), api.ErrLarge},
		{raw(0, 1, 2), api.ErrLarge},
		{raw(0, 1, 1), api.ErrShort},
		{append([]byte{0, 1, 1, 0xc1, 0, 1}, make([]byte, 65537)...), api.ErrLarge},
		{[]byte{0, 1, 1, 0xc1, 0, 0}, api.ErrShort},

		{one, api.OK},
		{with(one, 0), api.ErrForm},
		{raw(0, 0, 0), api.ErrForm},
		{raw(5, 0, 0, items("a", 5)), api.ErrForm},
		{raw(api.MaxOrd, 2, 1, items("a", 5)), api.ErrArg},
		{raw(api.MaxOrd, 1, 1, items("a", api.MaxOrd)), api.OK},
		{raw(0, 1, 0), api.ErrNone},
		{raw(api.MaxOrd, 2, 0), api.ErrArg},
		{raw(api.MaxOrd, 1, 0), api.ErrNone},
		{raw(0, 1, 1, nil), api.ErrShort},
		{[]byte{0, 1, 1, 1, 0}, api.ErrShort},
		{none.Bytes(), api.ErrForm},

		{raw(7, 2, 2, items("b", 7), items("a", 8)), api.ErrOrder},
		{raw(7, 2, 2, items("a", 8), items("a", 7)), api.ErrOrder},
		{raw(7, 2, 2, items("a", 7), items("a", 7)), api.ErrOrder},
		{raw(7, 3, 2, items("a", 7, 9), items("a", 8)), api.ErrOrder},
		{raw(7, 2, 2, items("a", 7), items("a", 8)), api.OK},
		{raw(7, 2, 2, items("a", 8), items("b", 7)), api.OK},

		{raw(7, 2, 1, items("a", 6, 7)), api.ErrArg},
		{raw(7, 2, 1, items("a", 8, 9)), api.ErrArg},
		{raw(7, 2, 2, items("a", 7), items("b", 7)), api.ErrThere},
		{raw(7, 2, 2, items("a", 7), items("b", 9)), api.ErrArg},
		{raw(7, 3, 2, items("a", 7), items("b", 8)), api.ErrNone},
		{raw(7, 2, 2, items("a", 7, 8), items("b", 6)), api.ErrArg},
		{raw(7, 2, 2, items("b", 7), items("a", 99)), api.ErrOrder},
	} {
		first, l, e := segment.Decode(c.b)
		if e != c.e || e != api.OK && (first != 0 || l != nil) {
			t.Errorf("%d: %d", i, e)
		}
		chunks, f := segment.Chunks(c.b)
		if f != c.e || f != api.OK && chunks != nil {
			t.Errorf("Chunks %d: %d", i, f)
		}
	}
}

// P21.3.
func TestRoundTrip(t *testing.T) {
	rnd := rand.New(rand.NewSource(1))
	for range 200 {
		x := api.Config{Points: 1 + rnd.Intn(128), Bytes: 200 + rnd.Intn(2000)}
		var l []api.Point
		for i := range 1 + rnd.Intn(100) {
			p := sum("s"+strconv.Itoa(rnd.Intn(5)), i+1, int(rnd.Uint64()>>rnd.Intn(64)))
			if rnd.Intn(2) == 0 {
				p.Attrs = []api.Pair{{Key: "b", Val: "1"}, {Key: "a", Val: "2"}}
			}
			l = append(l, p)
		}
		first := rnd.Intn(1000)
		b, e := segment.Encode(x, first, l)
		if e != api.OK {
			t.Fatalf("Encode: %d", e)
		}
		n, got, e := segment.Decode(b)
		if n != first || e != api.OK || len(got) != len(l) {
			t.Fatalf("Decode: %d", e)
		}
		for i := range l {
			if !point.Same(l[i], got[i]) || len(got[i].Attrs) > 0 && got[i].Attrs[0].Key != "a" {
				t.Fatalf("%v, not %v", got[i], l[i])
			}
		}
		chunks, _ := segment.Chunks(b)
		w := pack.NewWriter()
		w.Num(uint64(first))
		w.Num(uint64(len(l)))
		w.Num(uint64(len(chunks)))
		for _, c := range chunks {
			w.Text(string(c))
		}
		if !bytes.Equal(w.Bytes(), b) {
			t.Fatal("Chunks")
		}
		for range 20 {
			c := bytes.Clone(b)
			c[rnd.Intn(len(c))] ^= 1 << rnd.Intn(8)
			if _, l, e := segment.Decode(c); e == api.OK {
				for _, p := range l {
					if point.Check(p) != api.OK {
						t.Fatal("a wrong point")
					}
				}
			}
		}
		chunks[0] = append(chunks[0], 1, 2, 3)
		chunks[0][0] ^= 1
		if again, _ := segment.Chunks(b); again[0][0] == chunks[0][0] {
			t.Fatal("memory is shared")
		}
	}
}
