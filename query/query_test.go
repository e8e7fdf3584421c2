package query_test

import (
	"math"
	"math/bits"
	"math/rand"
	"slices"
	"strconv"
	"testing"

	"limnograph/api"
	"limnograph/point"
	"limnograph/query"
)

// sum is a whole sum of what came in between, of a series with the attribute host.
func sum(host string, start, time, v int) api.Point {
	return api.Point{Name: "cpu", Attrs: []api.Pair{{Key: "z", Val: "1"}, {Key: "host", Val: host}}, Kind: api.IntSum, Temp: api.Delta, Start: start, Time: time, Int: v}
}

// gauge is a gauge.
func gauge(time int) api.Point {
	return api.Point{Name: "g", Kind: api.Gauge, Start: time, Time: time, Re: 7, Flags: api.First}
}

// same tells whether two rows are the same.
func same(a, b api.Row) bool {
	return a.Key == b.Key && a.Count == b.Count && a.First == b.First && a.Last == b.Last && point.Same(a.Value, b.Value)
}

const keyA, keyB = "cpu;host=a;z=1 120", "cpu;host=b;z=1 120"

// P37.1.
func TestSeries(t *testing.T) {
	l, e := query.Series([]api.Point{sum("b", 0, 1, 1), gauge(1), sum("a", 0, 1, 1), sum("b", 1, 2, 1)})
	if e != api.OK || !slices.Equal(l, []string{keyB, "g 300", keyA}) {
		t.Errorf("%q %d", l, e)
	}
	if l, e := query.Series(nil); len(l) != 0 || e != api.OK {
		t.Errorf("%q %d", l, e)
	}
	if l, e := query.Series([]api.Point{gauge(1), {Name: "x"}, {}}); l != nil || e != api.ErrKind {
		t.Errorf("%q %d", l, e)
	}
	var many []api.Point
	for i := range 4097 {
		many = append(many, sum(strconv.Itoa(i), 0, 1, 1))
	}
	if l, e := query.Series(many); l != nil || e != api.ErrLarge {
		t.Errorf("%d", e)
	}
	if l, e := query.Series(many[1:]); len(l) != 4096 || e != api.OK {
		t.Errorf("%d", e)
	}
	if _, e := query.Series(append(many, api.Point{})); e != api.ErrForm {
		t.Errorf("%d", e)
	}
	if _, e := query.Run(many, api.Query{Match: []api.Match{{Glob: "["}}}); e != api.ErrLarge {
		t.Errorf("%d", e)
	}
}

// P37.2.
func TestRun(t *testing.T) {
	flagged := sum("b", 0, 3, 5)
	flagged.Flags = api.First
	turned := sum("b", 3, 6, 2)
	turned.Attrs[0], turned.Attrs[1] = turned.Attrs[1], turned.Attrs[0]
	l := []api.Point{flagged, gauge(5), sum("a", 0, 4, 1), turned, sum("a", 4, 9, 10), gauge(7)}
	g := gauge(7)
	g.Flags = 0
	rowB := api.Row{Key: keyB, Count: 2, First: 3, Last: 6, Value: sum("b", 0, 6, 7)}
	rowA := api.Row{Key: keyA, Count: 2, First: 4, Last: 9, Value: sum("a", 0, 9, 11)}
	rowG := api.Row{Key: "g 300", Count: 2, First: 5, Last: 7, Value: g}
	for i, c := range []struct {
		q    api.Query
		want []api.Row
		e    api.Errno
	}{
		{api.Query{To: 100}, []api.Row{rowB, rowG, rowA}, api.OK},
		{api.Query{From: -1, To: math.MaxInt}, []api.Row{rowB, rowG, rowA}, api.OK},
		{api.Query{}, nil, api.OK},
		{api.Query{From: 100, To: 1}, nil, api.OK},
		{api.Query{From: math.MaxInt, To: math.MinInt}, nil, api.OK},
		{api.Query{To: 100, Match: []api.Match{{Key: "host", Glob: "a"}}}, []api.Row{rowA}, api.OK},
		{api.Query{To: 100, Match: []api.Match{{Key: "host", Glob: "?"}, {Glob: "cpu"}}}, []api.Row{rowB, rowA}, api.OK},

		{
			api.Query{From: 4, To: 9, Match: []api.Match{{Key: "host", Glob: "a"}}},
			[]api.Row{{Key: keyA, Count: 1, First: 9, Last: 9, Value: sum("a", 4, 9, 10)}},
			api.OK,
		},
		{api.Query{From: 3, To: 4}, []api.Row{{Key: keyA, Count: 1, First: 4, Last: 4, Value: sum("a", 0, 4, 1)}}, api.OK},
		{api.Query{From: 2, To: 3}, []api.Row{{Key: keyB, Count: 1, First: 3, Last: 3, Value: sum("b", 0, 3, 5)}}, api.OK},

		{api.Query{To: 100, Match: []api.Match{{Glob: "x"}, {Glob: "["}}}, nil, api.ErrShort},
		{api.Query{Match: []api.Match{{Key: "K"}}}, nil, api.ErrForm},
	} {
		rows, e := query.Run(l, c.q)
		if e != c.e || !slices.EqualFunc(rows, c.want, same) {
			t.Errorf("%d: %v %d", i, rows, e)
		}
		for _, r := range rows {
			if len(r.Value.Attrs) > 0 && r.Value.Attrs[0].Key != "host" {
				t.Errorf("%d: %v", i, r.Value.Attrs)
			}
		}
	}
	for i, c := range []struct {
		l []api.Point
		e api.Errno
	}{
		{[]api.Point{{}}, api.ErrForm},
		{[]api.Point{sum("a", 0, 5, 1), sum("a", 0, 5, 1)}, api.ErrOrder},
		{[]api.Point{sum("a", 0, 5, 1), sum("a", 4, 6, 1)}, api.ErrOverlap},
		{[]api.Point{sum("a", 0, 5, math.MaxInt), sum("a", 5, 6, 1)}, api.ErrLarge},
		{[]api.Point{sum("b", 0, 5, 1), sum("a", 0, 5, math.MaxInt), sum("a", 5, 6, 1), sum("b", 0, 5, 1)}, api.ErrOrder},
		{nil, api.OK},
	} {
		if rows, e := query.Run(c.l, api.Query{To: 100}); e != c.e || rows != nil {
			t.Errorf("%d: %v %d", i, rows, e)
		}
	}
	if _, e := query.Run([]api.Point{sum("a", 0, 5, 1), sum("a", 0, 5, 1)}, api.Query{To: 100, Match: []api.Match{{Glob: "x"}}}); e != api.OK {
		t.Errorf("of a series that isn't chosen: %d", e)
	}
}

// all is the buckets of all measures of a histogram, in order.
func all(h api.Hist) []api.Bucket {
	var l []api.Bucket
	put := func(b api.Bucket, n uint64) {
		for range n {
			l = append(l, b)
		}
	}
	for i := len(h.Neg.Counts) - 1; i >= 0; i-- {
		put(api.Bucket{Side: -1, Index: h.Neg.Offset + i}, h.Neg.Counts[i])
	}
	put(api.Bucket{}, h.Zero)
	for i, n := range h.Pos.Counts {
		put(api.Bucket{Side: 1, Index: h.Pos.Offset + i}, n)
	}
	return l
}

// P37.3.
func TestRank(t *testing.T) {
	h := api.Hist{Zero: 2, Pos: api.Side{Counts: []uint64{1, 3}}}
	if b, ok := query.Nth(h, 2); !ok || b != (api.Bucket{}) {
		t.Errorf("%v", b)
	}
	if b, ok := query.Nth(h, 3); !ok || b != (api.Bucket{Side: 1}) {
		t.Errorf("%v", b)
	}
	if b, ok := query.Share(h, 1, 2); !ok || b != (api.Bucket{Side: 1}) {
		t.Errorf("%v", b)
	}
	rnd := rand.New(rand.NewSource(1))
	for range 500 {
		h := api.Hist{Zero: uint64(rnd.Intn(3))}
		for _, s := range []*api.Side{&h.Pos, &h.Neg} {
			if n := rnd.Intn(5); n > 0 {
				s.Offset = rnd.Intn(9) - 4
				for range n {
					s.Counts = append(s.Counts, uint64(rnd.Intn(3)))
				}
				s.Counts[0]++
				s.Counts[n-1]++
			}
		}
		l := all(h)
		for n := range len(l) + 3 {
			b, ok := query.Nth(h, uint64(n))
			if in := n > 0 && n <= len(l); ok != in || in && b != l[n-1] || !in && b != (api.Bucket{}) {
				t.Fatalf("%v: %d: %v %v", h, n, b, ok)
			}
		}
		for den := range 6 {
			for num := range 8 {
				b, ok := query.Share(h, uint64(num), uint64(den))
				in := len(l) > 0 && den > 0 && num <= den
				want := api.Bucket{}
				if in {
					want = l[max(1, (len(l)*num+den-1)/den)-1]
				}
				if ok != in || b != want {
					t.Fatalf("%v: %d of %d: %v %v", h, num, den, b, ok)
				}
			}
		}
		for side := -2; side < 3; side++ {
			for index := -6; index < 10; index++ {
				b := api.Bucket{Side: side, Index: index}
				n := uint64(0)
				for _, x := range l {
					if x.Side < side || x.Side == side && (side < 0 && x.Index > index || side > 0 && x.Index < index) {
						n++
					}
				}
				if side < -1 || side > 1 || side == 0 && index != 0 {
					n = 0
				}
				if query.Below(h, b) != n {
					t.Fatalf("%v: below %v: %d, not %d", h, b, query.Below(h, b), n)
				}
			}
		}
	}
}

// P37.3: at the edges, and of what isn't right.
func TestRankEdges(t *testing.T) {
	const max = math.MaxUint64
	big := api.Hist{Zero: 1, Pos: api.Side{Counts: []uint64{max - 1}}}
	for i, c := range []struct {
		h        api.Hist
		num, den uint64
		side     int
		ok       bool
	}{
		{big, 0, 1, 0, true},
		{big, 1, max, 0, true},
		{big, 2, max, 1, true},
		{big, max, max, 1, true},
		{big, 1, 0, 0, false},
		{big, 0, 0, 0, false},
		{big, max, max - 1, 0, false},
		{big, max - 1, max, 1, true},
		{api.Hist{}, 1, 1, 0, false},
		{api.Hist{Zero: 1, Scale: 50}, 1, 1, 0, false},
		{api.Hist{Zero: max, Pos: api.Side{Counts: []uint64{1}}}, 1, 1, 0, false},
	} {
		if b, ok := query.Share(c.h, c.num, c.den); ok != c.ok || b.Side != c.side {
			t.Errorf("%d: %v %v", i, b, ok)
		}
	}
	if b, ok := query.Nth(big, max); !ok || b.Side != 1 {
		t.Errorf("%v", b)
	}
	if hi, _ := bits.Mul64(max, max); hi != max-1 {
		t.Error("Mul64")
	}
	wrong := api.Hist{Zero: 5, Pos: api.Side{Counts: []uint64{0}}}
	if _, ok := query.Nth(wrong, 1); ok || query.Below(wrong, api.Bucket{Side: 1, Index: 9}) != 0 {
		t.Error("of a wrong histogram")
	}
	if query.Below(big, api.Bucket{Side: 1, Index: math.MaxInt}) != max || query.Below(big, api.Bucket{Side: 1, Index: math.MinInt}) != 1 || query.Below(big, api.Bucket{Side: -1, Index: math.MinInt}) != 0 || query.Below(big, api.Bucket{Side: math.MinInt}) != 0 {
		t.Error("Below")
	}
}

// P37.4.
func TestParts(t *testing.T) {
	rnd := rand.New(rand.NewSource(2))
	for range 300 {
		var l []api.Point
		time := 0
		for range rnd.Intn(30) {
			time += 1 + rnd.Intn(3)
			l = append(l, sum("a", time-1, time, rnd.Intn(100)-50))
		}
		cut := rnd.Intn(time + 1)
		tell := func(from, to int) (n, sum int) {
			rows, e := query.Run(l, api.Query{From: from, To: to})
			if e != api.OK || len(rows) > 1 {
				t.Fatalf("%v %d", rows, e)
			}
			for _, r := range rows {
				n, sum = n+r.Count, sum+r.Value.Int
			}
			return n, sum
		}
		n, whole := tell(0, time)
		a, x := tell(0, cut)
		b, y := tell(cut, time)
		if n != a+b || n != len(l) || whole != x+y {
			t.Fatalf("%d and %d, not %d", a, b, n)
		}
	}
	h := api.Point{Name: "h", Attrs: []api.Pair{{Key: "k", Val: "v"}}, Kind: api.Histo, Temp: api.Cumul, Time: 1, Hist: api.Hist{Pos: api.Side{Counts: []uint64{5}}}}
	later := point.Clone(h)
	later.Time = 2
	rows, _ := query.Run([]api.Point{h, later}, api.Query{To: 9})
	rows[0].Value.Hist.Pos.Counts[0], rows[0].Value.Attrs[0].Key = 9, "z"
	if later.Hist.Pos.Counts[0] != 5 || h.Attrs[0].Key != "k" || later.Attrs[0].Key != "k" {
		t.Error("memory is shared")
	}
}
