package snap_test

import (
	"bytes"
	"math"
	"slices"
	"strings"
	"testing"

	"limnograph/api"
	"limnograph/disk"
	"limnograph/frame"
	"limnograph/snap"
)

// of is a disk with a snapshot "s" of a payload.
func of(t *testing.T, payload string, capacity int) *disk.Disk {
	t.Helper()
	d := disk.New(nil, capacity)
	if e := snap.Save(d, "s", []byte(payload)); e != api.OK {
		t.Fatalf("Save: %d", e)
	}
	return d
}

// P20.1.
func TestSave(t *testing.T) {
	d := of(t, "a", 1000)
	if b, _ := d.Read("s"); !slices.Equal(d.Names(), []string{"s"}) || d.Calls() != 4 || len(b) != 10 {
		t.Errorf("%q, %d calls", d.Names(), d.Calls())
	}
	if n, sure, _ := d.Size("s"); n != 10 || sure != 10 {
		t.Errorf("%d %d", n, sure)
	}
	for i, c := range []struct {
		name    string
		payload int
		e       api.Errno
	}{
		{strings.Repeat("n", 29), api.MaxPayload + 1, api.ErrForm},
		{strings.Repeat("n", 28), api.MaxPayload + 1, api.ErrLarge},
		{strings.Repeat("n", 28), 1, api.OK},
		{"N", 1, api.ErrForm},
		{"", 1, api.ErrForm},
		{"x", 1000, api.ErrSpace},
	} {
		names, used := d.Names(), d.Used()
		if e := snap.Save(d, c.name, make([]byte, c.payload)); e != c.e || e != api.OK && (!slices.Equal(names, d.Names()) || d.Used() != used) {
			t.Errorf("%d: %d %q", i, e, d.Names())
		}
	}
}

// P20.1: a call that fails.
func TestFail(t *testing.T) {
	for after := range 7 {
		for _, left := range []bool{false, true} {
			d := of(t, "old", 1000)
			if left {
				d.Create("s.new")
				d.Append("s.new", []byte("left"))
			}
			calls := 4
			if left {
				calls = 5
			}
			d.Fail(after, 77)
			want := api.Errno(77)
			if after >= calls {
				want = api.OK
			}
			if e := snap.Save(d, "s", []byte("new")); e != want || !slices.Equal(d.Names(), []string{"s"}) {
				t.Fatalf("call %d: %d %q", after, e, d.Names())
			}
			text := "old"
			if want == api.OK {
				text = "new"
			}
			d.Fail(-1, 0)
			if p, is, e := snap.Load(d, "s"); string(p) != text || !is || e != api.OK {
				t.Fatalf("call %d: %q %v %d", after, p, is, e)
			}
		}
	}
	d := of(t, "old", 1000)
	d.Fail(2, api.ErrDown)
	if e := snap.Save(d, "s", []byte("new")); e != api.ErrDown || len(d.Names()) != 2 {
		t.Errorf("%d %q", e, d.Names())
	}
}

// P20.1: too little room.
func TestRoom(t *testing.T) {
	for room := range 40 {
		d := of(t, "a", 10+9+room)
		d.Create("x")
		d.Append("x", make([]byte, 9))
		e := snap.Save(d, "s", []byte("0123456789"))
		if want := room >= snap.Cost(10); (e == api.OK) != want || !want && e != api.ErrSpace {
			t.Errorf("room for %d: %d", room, e)
		}
		p, is, f := snap.Load(d, "s")
		if !is || f != api.OK || (string(p) == "0123456789") != (e == api.OK) || e != api.OK && string(p) != "a" {
			t.Errorf("room for %d: %q", room, p)
		}
	}
}

// P20.2.
func TestLoad(t *testing.T) {
	good, _ := frame.Wrap([]byte("a"))
	for i, c := range []struct {
		data []byte
		p    string
		is   bool
		e    api.Errno
	}{
		{good, "a", true, api.OK},
		{nil, "", false, api.ErrBroken},
		{good[:9], "", false, api.ErrBroken},
		{append(bytes.Clone(good), 0), "", false, api.ErrBroken},
		{append(bytes.Clone(good), good...), "", false, api.ErrBroken},
		{[]byte("bad"), "", false, api.ErrBroken},
	} {
		d := disk.New([]api.File{{Name: "s", Data: c.data}}, 1000)
		if p, is, e := snap.Load(d, "s"); string(p) != c.p || is != c.is || e != c.e {
			t.Errorf("%d: %q %v %d", i, p, is, e)
		}
	}
	d := disk.New([]api.File{{Name: "s.new", Data: []byte("x")}, {Name: "t.new", Data: good}}, 1000)
	d.Fail(0, 77)
	if p, is, e := snap.Load(d, "s"); p != nil || is || e != 77 {
		t.Errorf("%q %v %d", p, is, e)
	}
	if p, is, e := snap.Load(d, "s"); p != nil || is || e != api.OK || !slices.Equal(d.Names(), []string{"t.new"}) {
		t.Errorf("%q %v %d", p, is, e)
	}
	d.Crash(0)
	d.Create("x")
	if p, is, e := snap.Load(d, "s"); p != nil || is || e != api.ErrDown {
		t.Errorf("%q %v %d", p, is, e)
	}
}

// P20.3: the old payload, or the new one.
func TestCrash(t *testing.T) {
	for after := range 7 {
		for keep := range 20 {
			d := of(t, "old", 1000)
			d.Create("s.new")
			d.Append("s.new", []byte("left"))
			d.Crash(after)
			e := snap.Save(d, "s", []byte("new"))
			if (e == api.OK) != (after > 4) || e != api.OK && e != api.ErrDown {
				t.Fatalf("call %d: %d", after, e)
			}
			if !d.Down() {
				d.Crash(0)
				d.Create("x")
			}
			d.Boot([]int{keep, keep})
			p, is, f := snap.Load(d, "s")
			want := "old"
			if e == api.OK {
				want = "new"
			}
			if string(p) != want || !is || f != api.OK || !slices.Equal(d.Names(), []string{"s"}) {
				t.Fatalf("call %d: %q %v %d", after, p, is, f)
			}
		}
	}
	for _, c := range [][2]int{{0, 9}, {1, 10}, {api.MaxPayload, api.MaxPayload + 9}, {api.MaxPayload + 1, 0}, {-1, 0}, {math.MaxInt, 0}} {
		if snap.Cost(c[0]) != c[1] {
			t.Errorf("Cost(%d): %d", c[0], snap.Cost(c[0]))
		}
	}
}

// P20.4.
func TestMemory(t *testing.T) {
	d := disk.New(nil, 100)
	in := []byte("ab")
	snap.Save(d, "s", in)
	in[0] = 'x'
	p, _, _ := snap.Load(d, "s")
	p[1] = 'y'
	if p, _, _ := snap.Load(d, "s"); string(p) != "ab" {
		t.Errorf("%q", p)
	}
}
