package rounds_test

import (
	"math"
	"math/rand"
	"slices"
	"testing"

	"limnograph/api"
	"limnograph/convert"
	"limnograph/point"
	"limnograph/rounds"
	"limnograph/world"
)

// cfg is a right configuration.
func cfg() api.Config {
	return api.Config{Out: api.Delta, Series: 3, Buckets: 10, Points: 20, Bytes: 4096, Disk: 100000, Window: 2}
}

// in is the event of the n-th point of a sum.
func in(n int) api.Event {
	return api.Event{Kind: api.EvIngest, Point: api.Point{Name: "x", Kind: api.IntSum, Temp: api.Cumul, Time: 10*n + 10, Int: n * n}}
}

// ev is an event with N.
func ev(kind, n int) api.Event {
	return api.Event{Kind: kind, N: n}
}

// with is a world with so many sealed segments.
func with(n int) *world.World {
	w := world.New(cfg())
	for i := range n {
		w.Run(in(i), ev(api.EvSeal, 0))
	}
	return w
}

// whole tells whether all that was accepted is delivered.
func whole(w *world.World) bool {
	c := convert.New(w.Config())
	var l []api.Point
	for _, p := range w.Accepted() {
		q, _ := c.Take(p)
		l = append(l, q)
	}
	return slices.EqualFunc(l, w.Delivered(), point.Same)
}

// P28.1.
func TestRound(t *testing.T) {
	w := with(3)
	if n := rounds.Round(w); n != 4 || w.Left() != 1 || len(w.Delivered()) != 2 || w.Under(true)+w.Under(false) != 0 {
		t.Errorf("%d", n)
	}
	w.Run(ev(api.EvTick, 0), ev(api.EvDouble, 0), ev(api.EvDouble, 0))
	if n := rounds.Round(w); n != 8 || w.Left() != 0 || len(w.Delivered()) != 3 {
		t.Errorf("%d", n)
	}
	if n := rounds.Round(w); n != 0 {
		t.Errorf("%d", n)
	}
	w = with(1)
	w.Run(ev(api.EvTick, 0), ev(api.EvCrash, 0), ev(api.EvSync, 0))
	if n := rounds.Round(w); n != 0 || w.Under(false) != 1 || w.Left() != 1 {
		t.Errorf("with the power gone: %d", n)
	}
}

// P28.2.
func TestMendBound(t *testing.T) {
	w := with(2)
	if rounds.Bound(w) != 2 || rounds.Bound(with(0)) != 0 {
		t.Errorf("%d", rounds.Bound(w))
	}
	w.Step(in(9))
	if rounds.Bound(w) != 3 {
		t.Errorf("%d", rounds.Bound(w))
	}
	w.Run(api.Event{Kind: api.EvFail, Code: 77}, ev(api.EvCrash, 1))
	if rounds.Mend(w, nil) != api.OK || w.Step(ev(api.EvSync, 0)) != api.OK || w.Step(ev(api.EvSync, 0)) != api.OK {
		t.Error("something is armed")
	}
	w.Run(in(10), ev(api.EvCrash, 0), in(11))
	if rounds.Mend(w, []int{0, 0, 0, 999}) != api.OK || w.Down() || w.Next() != 4 {
		t.Errorf("%d", w.Next())
	}
	w.Run(in(11), ev(api.EvCrash, 0), in(12))
	if rounds.Mend(w, nil) != api.OK || w.Next() != 4 {
		t.Errorf("%d", w.Next())
	}
}

// P28.3.
func TestSettle(t *testing.T) {
	w := world.New(cfg())
	if n, e := rounds.Settle(w, 0); n != 0 || e != api.OK || !rounds.Settled(w) {
		t.Errorf("%d %d", n, e)
	}
	w.Step(in(1))
	if rounds.Settled(w) {
		t.Error("with a head")
	}
	if n, e := rounds.Settle(w, 1); n != 1 || e != api.OK || !rounds.Settled(w) || !whole(w) {
		t.Errorf("%d %d", n, e)
	}
	for _, c := range []struct {
		most, n int
		e       api.Errno
	}{
		{-1, 0, api.ErrBusy},
		{math.MinInt, 0, api.ErrBusy},
		{0, 0, api.ErrBusy},
		{1, 1, api.ErrBusy},
		{2, 2, api.ErrBusy},
		{3, 3, api.OK},
		{math.MaxInt, 3, api.OK},
	} {
		w := with(5)
		w.Step(in(6))
		if n, e := rounds.Settle(w, c.most); e == api.OK && n != c.n || e != c.e || rounds.Settled(w) != (e == api.OK) || w.Sealed() != w.Next() {
			t.Errorf("most %d: %d %d", c.most, n, e)
		}
	}
	w = with(1)
	w.Step(ev(api.EvTick, 0))
	rounds.Round(w)
	w.Step(ev(api.EvTick, 0))
	if !rounds.Settled(w) {
		t.Error("Settled")
	}
	w = with(1)
	w.Step(ev(api.EvTick, 0))
	w.Step(ev(api.EvDouble, 0))
	w.Run(ev(api.EvDeliver, 0), ev(api.EvDeliver, 1))
	if rounds.Settled(w) || w.Left() != 0 {
		t.Error("with a message under way")
	}
	w.Step(in(5))
	w.Step(api.Event{Kind: api.EvFail, Code: 77})
	if n, e := rounds.Settle(w, 5); n != 0 || e != 77 {
		t.Errorf("%d %d", n, e)
	}
	w.Run(ev(api.EvCrash, 0), in(6))
	if n, e := rounds.Settle(w, 5); n != 0 || e != api.ErrDown || rounds.Settled(w) {
		t.Errorf("%d %d", n, e)
	}
}

// full is a world whose disk has no room for the checkpoint: its one segment is delivered in vain, by three calls of the disk that change a round.
func full(t *testing.T) *world.World {
	t.Helper()
	x := cfg()
	x.Disk = 75
	w := world.New(x)
	// The old log stays, and takes up room.
	w.Run(in(1), api.Event{Kind: api.EvFail, N: 9, Code: 77}, ev(api.EvSeal, 0))
	if n, e := rounds.Settle(w, 1); n != 1 || e != api.ErrBusy || w.Left() != 1 || w.Next() != 1 {
		t.Fatalf("%d %d", n, e)
	}
	return w
}

// same tells whether two worlds are the same, as far as it is to be seen, and as far as calls to come tell what is armed.
func same(a, b *world.World) bool {
	for range 40 {
		if a.Down() != b.Down() || a.Acked() != b.Acked() || a.Left() != b.Left() || a.Used() != b.Used() || !slices.Equal(a.Files(), b.Files()) {
			return false
		}
		if a.Step(ev(api.EvSync, 0)) != b.Step(ev(api.EvSync, 0)) {
			return false
		}
	}
	return true
}

// P28.3: Settle is EvSeal and rounds, those too that bring nothing: what is armed comes nearer with them.
func TestSettleInVain(t *testing.T) {
	for _, most := range []int{math.MinInt, -1, 0, 1, 2, 3, 63, 64, 65, 66, 150, 400} {
		for _, after := range []int{-1, 0, 1, 2, 3, 4, 5, 190, 191, 192, 193, 200, 300, 449, 450, 451, 1199, 1200, 1210, math.MaxInt} {
			for _, arm := range []api.Event{ev(api.EvCrash, after), {Kind: api.EvFail, N: after, Code: 77}} {
				a, b := full(t), full(t)
				a.Step(arm)
				b.Step(arm)
				n, e := rounds.Settle(a, most)
				b.Step(ev(api.EvSeal, 0))
				for range most {
					rounds.Round(b)
				}
				if n != max(0, most) || e != api.ErrBusy || !same(a, b) {
					t.Errorf("most %d, kind %d after %d: %d %d", most, arm.Kind, after, n, e)
				}
			}
		}
	}
}

// P28.3: as long as the promises reach, no round is left out; whatever is asked for, it ends.
func TestSettleFar(t *testing.T) {
	for _, c := range []struct {
		most, crash int
		down        bool
	}{
		{1000, 500, true},
		{166, 500, false},
		{167, 500, true},
		{170_000, 500_000, true},
		{166_666, 500_000, false},
		{math.MaxInt32, 500, true},
		{math.MaxInt, 500, true},
		{math.MaxInt, 100_000, true},
		{math.MaxInt, -1, false},
	} {
		w := full(t)
		w.Step(ev(api.EvCrash, c.crash))
		n, e := rounds.Settle(w, c.most)
		if n != c.most || e != api.ErrBusy || w.Down() != c.down || rounds.Settled(w) {
			t.Errorf("most %d, crash %d: %d %d, down %v", c.most, c.crash, n, e, w.Down())
		}
	}
}

// P28.4: without room.
func TestNoRoom(t *testing.T) {
	busy, space := 0, 0
	for size := 30; size < 800; size++ {
		x := cfg()
		x.Disk = size % 400
		w := world.New(x)
		if w == nil {
			continue
		}
		for i := range 24 {
			w.Step(in(i))
			if i%4 == 3 {
				if size > 400 {
					// The old log stays, and takes up room.
					w.Step(api.Event{Kind: api.EvFail, N: 9, Code: 77})
				}
				w.Step(ev(api.EvSeal, 0))
			}
		}
		if e := rounds.Mend(w, nil); e != api.OK {
			t.Fatalf("Mend: %d", e)
		}
		_, e := rounds.Settle(w, 40)
		switch e {
		case api.OK:
			if !rounds.Settled(w) || !whole(w) {
				t.Fatalf("%d: not settled", size)
			}
		case api.ErrBusy:
			busy++
		case api.ErrSpace:
			space++
		default:
			t.Fatalf("%d: %d", size, e)
		}
	}
	if busy == 0 || space == 0 {
		t.Errorf("%d are busy, %d have no space", busy, space)
	}
}

// P28.4: it ends, whatever a script did ahead of it.
func TestEnds(t *testing.T) {
	rnd := rand.New(rand.NewSource(1))
	for range 200 {
		x := cfg()
		x.Window, x.Out = 1+rnd.Intn(4), rnd.Intn(3)
		w := world.New(x)
		for i := range 80 {
			kind := 1 + rnd.Intn(11)
			switch {
			case rnd.Intn(3) == 0:
				w.Step(in(i))
			case kind == api.EvFail || kind == api.EvCrash:
				w.Step(api.Event{Kind: kind, N: rnd.Intn(20), Code: api.Errno(rnd.Intn(20))})
			case kind != api.EvIngest:
				w.Step(api.Event{Kind: kind, N: rnd.Intn(4), K: rnd.Intn(4), Keep: []int{rnd.Intn(100), rnd.Intn(100), rnd.Intn(100)}})
			}
		}
		if e := rounds.Mend(w, []int{rnd.Intn(100), rnd.Intn(100), rnd.Intn(100), rnd.Intn(100)}); e != api.OK {
			t.Fatalf("Mend: %d", e)
		}
		bound := rounds.Bound(w)
		under := w.Under(true) + w.Under(false)
		n, e := rounds.Settle(w, max(bound, min(under, 1)))
		if e != api.OK || n > max(bound, 1) || !rounds.Settled(w) || !whole(w) {
			t.Fatalf("%d of %d rounds: %d", n, bound, e)
		}
	}
}
