package promises_test

import (
	"math/rand"
	"slices"
	"strconv"
	"testing"

	"limnograph/api"
	"limnograph/convert"
	"limnograph/point"
	"limnograph/rounds"
	"limnograph/world"
)

// P2: turned there and back, a sum tells the last value that came, beside what came ahead of its epoch.
func TestThereAndBack(t *testing.T) {
	rnd := rand.New(rand.NewSource(1))
	for range 300 {
		there := convert.New(api.Config{Out: api.Delta, Series: 4, Buckets: 160})
		back := convert.New(api.Config{Out: api.Cumul, Series: 4, Buckets: 160})
		start, time, sum, ahead := 0, 0, 0, 0
		for range 30 {
			was := sum
			if rnd.Intn(9) == 0 {
				start, sum = time, 0
			}
			time += 1 + rnd.Intn(4)
			sum += rnd.Intn(100)
			d, e := there.Take(api.Point{Name: "x", Kind: api.IntSum, Temp: api.Cumul, Mono: true, Start: start, Time: time, Int: sum})
			if e != api.OK {
				t.Fatalf("there: %d", e)
			}
			if d.Flags == api.Moved {
				ahead += was
			} else if d.Flags != 0 && d.Flags != api.First {
				t.Fatalf("%v", d)
			}
			// Its times tile, so the way back knows of one epoch alone.
			d.Flags = 0
			c, e := back.Take(d)
			if e != api.OK || c.Time != time || c.Start != 0 || c.Int != ahead+sum {
				t.Fatalf("%v: %v, not %d: %d", d, c, ahead+sum, e)
			}
		}
	}
}

// some is the n-th point of some series.
func some(rnd *rand.Rand, n int) api.Point {
	p := api.Point{Name: "s" + strconv.Itoa(rnd.Intn(3)), Kind: api.IntSum, Temp: api.Cumul, Mono: true, Time: 10*n + 10, Int: n + rnd.Intn(3)}
	if rnd.Intn(4) == 0 {
		p = api.Point{Name: "g", Kind: api.Gauge, Start: 10 * n, Time: 10 * n, Re: rnd.Uint64()}
	}
	return p
}

// P3: whatever is lost, doubled and turned about, whenever the power goes: at the end the sink has each point once, in order.
func TestEachOnce(t *testing.T) {
	rnd := rand.New(rand.NewSource(2))
	for range 200 {
		cfg := api.Config{Out: rnd.Intn(3), Series: 5, Buckets: 10, Points: 1 + rnd.Intn(30), Bytes: 4096, Disk: 100000, Window: 1 + rnd.Intn(3)}
		w := world.New(cfg)
		for n := range 120 {
			e := api.Event{
				Kind: []int{1, 1, 1, 1, 2, 3, 4, 5, 5, 6, 7, 8, 10, 11, 11}[rnd.Intn(15)],
				N:    rnd.Intn(5),
				K:    rnd.Intn(5),
				Keep: []int{rnd.Intn(99), rnd.Intn(99), rnd.Intn(99)},
			}
			if e.Kind == api.EvIngest {
				e.Point = some(rnd, n)
			}
			if e.Kind == api.EvCrash {
				e.N = rnd.Intn(30)
			}
			w.Step(e)
		}
		if e := rounds.Mend(w, nil); e != api.OK {
			t.Fatalf("Mend: %d", e)
		}
		if _, e := rounds.Settle(w, rounds.Bound(w)+1); e != api.OK {
			t.Fatalf("Settle: %d", e)
		}
		conv := convert.New(cfg)
		var want []api.Point
		for _, p := range w.Accepted() {
			q, e := conv.Take(p)
			if e != api.OK {
				t.Fatalf("Take: %d", e)
			}
			want = append(want, q)
		}
		if !slices.EqualFunc(want, w.Delivered(), point.Same) {
			t.Fatalf("%v, not %v", w.Delivered(), want)
		}
	}
}
