package store_test

import (
	"bytes"
	"math"
	"slices"
	"testing"

	"limnograph/api"
	"limnograph/disk"
	"limnograph/frame"
	"limnograph/segment"
	"limnograph/store"
)

// seg is a segment's bytes.
func seg(t *testing.T, first, n int) []byte {
	t.Helper()
	var l []api.Point
	for i := range n {
		l = append(l, api.Point{Name: "x", Kind: api.IntSum, Temp: api.Delta, Start: i, Time: i + 1, Int: first})
	}
	b, e := segment.Encode(api.Config{Points: 128, Bytes: 65536}, first, l)
	if e != api.OK {
		t.Fatalf("Encode: %d", e)
	}
	return b
}

// file is a segment's file, under the name of an ordinal.
func file(t *testing.T, name, first, n int) api.File {
	t.Helper()
	b, _ := frame.Wrap(seg(t, first, n))
	return api.File{Name: store.Name(name), Data: b}
}

// P22.1.
func TestName(t *testing.T) {
	for _, c := range []struct {
		n    int
		name string
	}{
		{0, "seg-0000000000000000"},
		{7, "seg-0000000000000007"},
		{api.MaxOrd, "seg-4503599627370496"},
		{api.MaxOrd + 1, ""},
		{-1, ""},
		{math.MinInt, ""},
		{math.MaxInt, ""},
	} {
		if store.Name(c.n) != c.name {
			t.Errorf("%d: %q", c.n, store.Name(c.n))
		}
	}
}

// P22.2.
func TestOpen(t *testing.T) {
	f := func(first, n int) api.File { return file(t, first, first, n) }
	cut := f(0, 2)
	cut.Data = cut.Data[:len(cut.Data)-1]
	more := f(0, 2)
	more.Data = append(more.Data, 0)
	junk := api.File{Name: store.Name(0)}
	junk.Data, _ = frame.Wrap([]byte("junk"))
	for i, c := range []struct {
		files     []api.File
		ack, next int
		e         api.Errno
		spans     []api.Span
		names     int
	}{
		{nil, 0, 0, api.OK, nil, 0},
		{nil, 0, 1, api.ErrBroken, nil, 0},
		{nil, -1, 0, api.ErrBroken, nil, 0},
		{nil, 2, 1, api.ErrBroken, nil, 0},
		{nil, api.MaxOrd + 1, api.MaxOrd + 1, api.OK, nil, 0},
		{nil, api.MaxOrd + 2, api.MaxOrd + 2, api.ErrBroken, nil, 0},
		{nil, math.MaxInt, math.MinInt, api.ErrBroken, nil, 0},

		{[]api.File{f(0, 2), f(2, 3)}, 0, 5, api.OK, []api.Span{{First: 0, End: 2}, {First: 2, End: 5}}, 2},
		{[]api.File{f(0, 2), f(2, 3)}, 1, 5, api.OK, []api.Span{{First: 0, End: 2}, {First: 2, End: 5}}, 2},
		{[]api.File{f(0, 2), f(2, 3)}, 2, 5, api.OK, []api.Span{{First: 2, End: 5}}, 1},
		{[]api.File{f(0, 2), f(2, 3)}, 4, 5, api.OK, []api.Span{{First: 2, End: 5}}, 1},

		{[]api.File{f(0, 2), f(2, 3)}, 5, 5, api.OK, nil, 0},
		{[]api.File{f(0, 2), f(2, 3)}, 0, 2, api.OK, []api.Span{{First: 0, End: 2}}, 1},
		{[]api.File{f(0, 2), f(2, 3)}, 0, 0, api.OK, nil, 0},
		{[]api.File{f(0, 2), f(2, 3)}, 0, 4, api.ErrBroken, nil, 2},
		{[]api.File{f(0, 2), f(2, 3)}, 0, 6, api.ErrBroken, nil, 2},
		{[]api.File{f(1, 2)}, 0, 3, api.ErrBroken, nil, 1},

		{[]api.File{f(0, 2), f(3, 1)}, 0, 4, api.ErrBroken, nil, 2},
		{[]api.File{f(0, 2), f(1, 3)}, 0, 4, api.ErrBroken, nil, 2},
		{[]api.File{cut}, 0, 2, api.ErrBroken, nil, 1},
		{[]api.File{more}, 0, 2, api.ErrBroken, nil, 1},
		{[]api.File{junk}, 0, 2, api.ErrBroken, nil, 1},
		{[]api.File{junk}, 0, 0, api.OK, nil, 0},
		{[]api.File{file(t, 0, 1, 2)}, 0, 2, api.ErrBroken, nil, 1},
		{[]api.File{cut}, 2, 2, api.ErrBroken, nil, 1},

		{[]api.File{{Name: "seg-"}}, 0, 0, api.ErrBroken, nil, 1},
		{[]api.File{{Name: "seg-7"}}, 0, 0, api.ErrBroken, nil, 1},
		{[]api.File{{Name: "seg-000000000000000x"}}, 0, 0, api.ErrBroken, nil, 1},
		{[]api.File{{Name: "seg-4503599627370497"}}, 0, 0, api.ErrBroken, nil, 1},
		{[]api.File{{Name: "seg"}, {Name: "xseg-"}}, 0, 0, api.OK, nil, 2},
		{[]api.File{{Name: "seg-00000000000000007"}}, 0, 0, api.ErrBroken, nil, 1},
	} {
		d := disk.New(c.files, 100000)
		s, e := store.Open(d, c.ack, c.next)
		if e != c.e || (s != nil) != (e == api.OK) || len(d.Names()) != c.names {
			t.Errorf("%d: %d %q", i, e, d.Names())
		}
		if s != nil && !slices.Equal(s.Spans(), c.spans) {
			t.Errorf("%d: %v", i, s.Spans())
		}
	}
}

// P22.2: the power, and calls that fail.
func TestOpenFails(t *testing.T) {
	d := disk.New([]api.File{file(t, 0, 0, 2), file(t, 2, 2, 2)}, 100000)
	d.Fail(0, 77)
	if s, e := store.Open(d, 2, 4); s != nil || e != 77 || len(d.Names()) != 2 {
		t.Errorf("%d", e)
	}
	d.Fail(0, 78)
	if s, e := store.Open(d, 0, 2); s != nil || e != 78 || len(d.Names()) != 2 {
		t.Errorf("%d", e)
	}
	d.Crash(0)
	if s, e := store.Open(d, 2, 4); s != nil || e != api.ErrDown {
		t.Errorf("%d", e)
	}
	if s, e := store.Open(d, 5, 4); s != nil || e != api.ErrDown {
		t.Errorf("%d", e)
	}
}

// P22.3: Put.
func TestPut(t *testing.T) {
	b := seg(t, 3, 2)
	for after := range 5 {
		d := disk.New(nil, 100000)
		s, _ := store.Open(d, 0, 0)
		d.Fail(after, 77)
		e := s.Put(3, b)
		if (e == api.OK) != (after > 2) || e != api.OK && (e != 77 || len(d.Names()) != 0) || len(s.Spans()) != 0 {
			t.Errorf("call %d: %d %q", after, e, d.Names())
		}
		if want, _ := frame.Wrap(b); e == api.OK {
			got, _ := d.Read(store.Name(3))
			if n, sure, _ := d.Size(store.Name(3)); !bytes.Equal(got, want) || n != sure {
				t.Errorf("%x", got)
			}
		}
	}
	d := disk.New([]api.File{{Name: store.Name(5), Data: []byte("x")}}, 50)
	s, _ := store.Open(d, 0, 0)
	d.Create(store.Name(5))
	for i, c := range []struct {
		first int
		b     []byte
		e     api.Errno
	}{
		{-1, make([]byte, 70000), api.ErrArg},
		{api.MaxOrd + 1, b, api.ErrArg},
		{5, make([]byte, 70000), api.ErrLarge},
		{5, b, api.ErrThere},
		{6, make([]byte, 50), api.ErrSpace},
		{6, []byte("any"), api.OK},
	} {
		if e := s.Put(c.first, c.b); e != c.e {
			t.Errorf("%d: %d", i, e)
		}
	}
	if !slices.Equal(d.Names(), []string{store.Name(5), store.Name(6)}) {
		t.Errorf("%q", d.Names())
	}
	if b, e := s.Read(6); e != api.ErrNone || b != nil {
		t.Errorf("of no span: %d", e)
	}
	d.Fail(1, api.ErrDown)
	if e := s.Put(7, b); e != api.ErrDown || len(d.Names()) != 3 {
		t.Errorf("%d %q", e, d.Names())
	}
	d.Crash(0)
	if e := s.Put(8, nil); e != api.ErrDown {
		t.Errorf("%d", e)
	}
}

// P22.3: Keep.
func TestKeep(t *testing.T) {
	s, _ := store.Open(disk.New(nil, 100), 0, 0)
	for i, c := range []struct {
		first, end int
		ok         bool
	}{{3, 3, false}, {4, 3, false}, {math.MaxInt, math.MinInt, false}, {3, 5, true}, {3, 5, false}, {6, 7, false}, {5, 5, false}, {5, 9, true}} {
		if s.Keep(api.Span{First: c.first, End: c.end}) != c.ok {
			t.Errorf("%d", i)
		}
	}
	if !slices.Equal(s.Spans(), []api.Span{{First: 3, End: 5}, {First: 5, End: 9}}) {
		t.Errorf("%v", s.Spans())
	}
	s.Spans()[0].First = 99
	if s.Spans()[0].First != 3 {
		t.Error("Spans aren't new")
	}
}

// P22.4, P22.5.
func TestReadBelow(t *testing.T) {
	d := disk.New([]api.File{file(t, 0, 0, 2), file(t, 2, 2, 2), file(t, 4, 4, 1), {Name: "other"}}, 100000)
	s, _ := store.Open(d, 0, 5)
	if b, e := s.Read(2); e != api.OK || !bytes.Equal(b, seg(t, 2, 2)) {
		t.Errorf("%d", e)
	}
	for _, first := range []int{1, 5, -1, math.MaxInt} {
		if b, e := s.Read(first); e != api.ErrNone || b != nil {
			t.Errorf("Read(%d): %d", first, e)
		}
	}
	if s.Below(-1) != api.OK || s.Below(1) != api.OK || len(s.Spans()) != 3 || len(d.Names()) != 4 {
		t.Error("Below 1")
	}
	if s.Below(3) != api.OK || !slices.Equal(s.Spans(), []api.Span{{First: 2, End: 4}, {First: 4, End: 5}}) || len(d.Names()) != 3 {
		t.Errorf("%v", s.Spans())
	}
	d.Fail(0, 77)
	if e := s.Below(5); e != 77 || len(s.Spans()) != 2 || len(d.Names()) != 3 {
		t.Errorf("%d", e)
	}
	d.Remove(store.Name(2))
	if b, e := s.Read(2); e != api.ErrNone || b != nil {
		t.Errorf("%d", e)
	}
	d.Append(store.Name(4), []byte("x"))
	if b, e := s.Read(4); e != api.ErrBroken || b != nil {
		t.Errorf("%d", e)
	}
	d.Fail(1, 78)
	if e := s.Below(5); e != 78 || !slices.Equal(s.Spans(), []api.Span{{First: 4, End: 5}}) {
		t.Errorf("%d %v", e, s.Spans())
	}
	if e := s.Below(math.MaxInt); e != api.OK || len(s.Spans()) != 0 || !slices.Equal(d.Names(), []string{"other"}) {
		t.Errorf("%d %v", e, s.Spans())
	}
	s.Keep(api.Span{First: 9, End: 10})
	d.Crash(0)
	if e := s.Below(20); e != api.ErrDown || len(s.Spans()) != 1 {
		t.Errorf("%d", e)
	}
	if _, e := s.Read(9); e != api.ErrDown {
		t.Errorf("%d", e)
	}
}
