package ship_test

import (
	"math"
	"slices"
	"testing"

	"limnograph/api"
	"limnograph/disk"
	"limnograph/pack"
	"limnograph/ship"
	"limnograph/snap"
)

// with is a disk with a checkpoint of some bytes.
func with(b []byte) *disk.Disk {
	d := disk.New(nil, 1000)
	snap.Save(d, "ack", b)
	return d
}

// fixed is a fixed number's bytes, and some more.
func fixed(v uint64, more ...byte) []byte {
	w := pack.NewWriter()
	w.Fix(v)
	w.Raw(more)
	return w.Bytes()
}

// P25.1.
func TestOpen(t *testing.T) {
	for i, c := range []struct {
		d   *disk.Disk
		ack int
		e   api.Errno
	}{
		{disk.New(nil, 5), 0, api.OK},
		{with(fixed(7)), 7, api.OK},
		{with(fixed(0)), 0, api.OK},
		{with(fixed(api.MaxOrd + 1)), api.MaxOrd + 1, api.OK},
		{with(fixed(api.MaxOrd + 2)), 0, api.ErrBroken},
		{with(fixed(math.MaxUint64)), 0, api.ErrBroken},
		{with(fixed(1, 0)), 0, api.ErrBroken},
		{with([]byte{1, 0, 0, 0, 0, 0, 0}), 0, api.ErrBroken},
		{with(nil), 0, api.ErrBroken},

		{disk.New([]api.File{{Name: "ack", Data: []byte("x")}}, 5), 0, api.ErrBroken},
	} {
		s, e := ship.Open(c.d)
		if e != c.e || (s != nil) != (e == api.OK) || s != nil && s.Ack() != c.ack {
			t.Errorf("%d: %d", i, e)
		}
	}
	d := disk.New([]api.File{{Name: "ack.new"}}, 5)
	d.Fail(0, 77)
	if s, e := ship.Open(d); s != nil || e != 77 {
		t.Errorf("%d", e)
	}
	d.Crash(0)
	d.Create("x")
	if s, e := ship.Open(d); s != nil || e != api.ErrDown {
		t.Errorf("%d", e)
	}
}

// P25.2.
func TestTake(t *testing.T) {
	d := disk.New(nil, 1000)
	s, _ := ship.Open(d)
	for i, c := range []struct {
		have, next int
		ok         bool
		ack        int
	}{
		{0, 5, false, 0},
		{-1, 5, false, 0},
		{3, 5, true, 3},
		{3, 5, false, 3},
		{2, 5, false, 3},
		{6, 5, false, 3},
		{5, 5, true, 5},
		{math.MaxInt, 9, false, 5},
		{math.MinInt, 9, false, 5},
		{7, math.MinInt, false, 5},
	} {
		calls := d.Calls()
		ok, e := s.Take(c.have, c.next)
		if ok != c.ok || e != api.OK || s.Ack() != c.ack || !ok && d.Calls() != calls {
			t.Errorf("%d: %v %d", i, ok, e)
		}
		if x, e := ship.Open(d); e != api.OK || x.Ack() != c.ack {
			t.Errorf("%d: opened %d", i, e)
		}
	}
	if b, _, _ := snap.Load(d, "ack"); !slices.Equal(b, fixed(5)) {
		t.Errorf("%x", b)
	}
	d.Fail(1, 77)
	if ok, e := s.Take(8, 9); ok || e != 77 || s.Ack() != 5 {
		t.Errorf("%v %d", ok, e)
	}
	small, _ := ship.Open(disk.New(nil, 16))
	if ok, e := small.Take(8, 9); ok || e != api.ErrSpace || small.Ack() != 0 {
		t.Errorf("%v %d", ok, e)
	}
}

// P25.3.
func TestDue(t *testing.T) {
	spans := []api.Span{{First: 0, End: 3}, {First: 3, End: 5}, {First: 5, End: 9}}
	d := disk.New(nil, 1000)
	s, _ := ship.Open(d)
	for _, c := range []struct{ ack, window, from, n, left int }{
		{0, 9, 0, 3, 3},
		{0, 2, 0, 2, 3},
		{0, 1, 0, 1, 3},
		{0, 0, 0, 0, 3},
		{0, math.MinInt, 0, 0, 3},
		{2, math.MaxInt, 0, 3, 3},
		{3, 3, 1, 2, 2},
		{4, 1, 1, 1, 2},
		{8, 3, 2, 1, 1},
		{9, 3, 0, 0, 0},
		{10, 3, 0, 0, 0},
	} {
		s.Take(c.ack, c.ack)
		if l := s.Due(spans, c.window); s.Ack() != c.ack || len(l) != c.n || c.n > 0 && l[0] != spans[c.from] {
			t.Errorf("%v: %v", c, l)
		}
		if ship.Left(spans, c.ack) != c.left {
			t.Errorf("%v: %d", c, ship.Left(spans, c.ack))
		}
	}
	if ship.Left(nil, 0) != 0 || ship.Left(spans, -1) != 3 || len(s.Due(nil, 3)) != 0 {
		t.Error("of none")
	}
	x, _ := ship.Open(disk.New(nil, 10))
	x.Due(spans, 3)[0].First = 99
	if spans[0].First != 0 {
		t.Error("memory is shared")
	}
}

// P25.4: Ack never falls, whenever the power goes.
func TestCrash(t *testing.T) {
	for after := range 6 {
		for keep := range 20 {
			d := disk.New(nil, 1000)
			s, _ := ship.Open(d)
			s.Take(3, 9)
			d.Crash(after)
			ok, e := s.Take(7, 9)
			if ok != (e == api.OK) || ok != (after > 3) {
				t.Fatalf("call %d: %v %d", after, ok, e)
			}
			if !d.Down() {
				d.Crash(0)
				d.Create("x")
			}
			d.Boot([]int{keep, keep, keep})
			if x, e := ship.Open(d); e != api.OK || x.Ack() != s.Ack() {
				t.Fatalf("call %d: %d", after, e)
			}
		}
	}
}
