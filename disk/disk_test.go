package disk_test

import (
	"bytes"
	"math"
	"math/rand"
	"slices"
	"strconv"
	"strings"
	"testing"

	"limnograph/api"
	"limnograph/disk"
)

// two is a disk with the files "a", of which "xy" is sure and "z" isn't, and "b" without bytes.
func two(t *testing.T) *disk.Disk {
	t.Helper()
	d := disk.New([]api.File{{Name: "a", Data: []byte("xy")}}, 10)
	if d.Append("a", []byte("z")) != api.OK || d.Create("b") != api.OK {
		t.Fatal("two")
	}
	return d
}

// P18.1.
func TestNew(t *testing.T) {
	many := make([]api.File, api.MaxFiles+1)
	for i := range many {
		many[i].Name = strconv.Itoa(i)
	}
	for i, c := range []struct {
		files    []api.File
		capacity int
		ok       bool
	}{
		{nil, 0, false},
		{nil, -1, false},
		{nil, 1, true},
		{nil, api.MaxDisk, true},
		{nil, api.MaxDisk + 1, false},
		{many, 100, false},
		{many[1:], 100, true},
		{[]api.File{{Name: ""}}, 5, false},
		{[]api.File{{Name: "A"}}, 5, false},
		{[]api.File{{Name: "a_b"}}, 5, false},
		{[]api.File{{Name: "a.b-0"}}, 5, true},
		{[]api.File{{Name: "az09"}}, 5, true},
		{[]api.File{{Name: "{"}}, 5, false},
		{[]api.File{{Name: "`"}}, 5, false},
		{[]api.File{{Name: "/"}}, 5, false},
		{[]api.File{{Name: ":"}}, 5, false},

		{[]api.File{{Name: strings.Repeat("a", 32)}}, 5, true},
		{[]api.File{{Name: strings.Repeat("a", 33)}}, 5, false},
		{[]api.File{{Name: "a"}, {Name: "a"}}, 5, false},
		{[]api.File{{Name: "a", Data: []byte("abc")}, {Name: "b", Data: []byte("de")}}, 5, true},
		{[]api.File{{Name: "a", Data: []byte("abc")}, {Name: "b", Data: []byte("def")}}, 5, false},
	} {
		if (disk.New(c.files, c.capacity) != nil) != c.ok {
			t.Errorf("%d", i)
		}
	}
	d := disk.New([]api.File{{Name: "b", Data: []byte("abc")}, {Name: "a"}}, 5)
	n, sure, e := d.Size("b")
	if n != 3 || sure != 3 || e != api.OK || d.Used() != 3 || !slices.Equal(d.Names(), []string{"a", "b"}) || d.Down() || d.Calls() != 0 {
		t.Error("what is there")
	}
}

// P18.2: the errors.
func TestErrors(t *testing.T) {
	for i, c := range []struct {
		f func(d *disk.Disk) api.Errno
		e api.Errno
	}{
		{func(d *disk.Disk) api.Errno { return d.Create("A") }, api.ErrForm},
		{func(d *disk.Disk) api.Errno { return d.Create("a") }, api.ErrThere},
		{func(d *disk.Disk) api.Errno { return d.Create("c") }, api.OK},
		{func(d *disk.Disk) api.Errno { return d.Append("c", nil) }, api.ErrNone},
		{func(d *disk.Disk) api.Errno { return d.Append("b", make([]byte, 8)) }, api.ErrSpace},

		{func(d *disk.Disk) api.Errno { return d.Append("b", make([]byte, 7)) }, api.OK},
		{func(d *disk.Disk) api.Errno { return d.Append("C", make([]byte, 99)) }, api.ErrNone},
		{func(d *disk.Disk) api.Errno { return d.Sync("c") }, api.ErrNone},
		{func(d *disk.Disk) api.Errno { return d.Cut("c", 0) }, api.ErrNone},
		{func(d *disk.Disk) api.Errno { return d.Cut("a", 4) }, api.ErrArg},

		{func(d *disk.Disk) api.Errno { return d.Cut("a", -1) }, api.ErrArg},
		{func(d *disk.Disk) api.Errno { return d.Cut("b", 0) }, api.OK},
		{func(d *disk.Disk) api.Errno { return d.Cut("a", math.MaxInt) }, api.ErrArg},
		{func(d *disk.Disk) api.Errno { return d.Rename("c", "C") }, api.ErrForm},
		{func(d *disk.Disk) api.Errno { return d.Rename("c", "d") }, api.ErrNone},
		{func(d *disk.Disk) api.Errno { return d.Rename("c", "c") }, api.ErrNone},
		{func(d *disk.Disk) api.Errno { return d.Rename("a", "a") }, api.OK},

		{func(d *disk.Disk) api.Errno { return d.Remove("c") }, api.ErrNone},
		{func(d *disk.Disk) api.Errno { return d.Remove("b") }, api.OK},
	} {
		d := two(t)
		was := d.Calls()
		if e := c.f(d); e != c.e || d.Calls() != was+1 {
			t.Errorf("%d: %d", i, e)
		}
		if b, _ := d.Read("a"); c.e != api.OK && (string(b) != "xyz" || d.Used() != 3 || len(d.Names()) != 2) {
			t.Errorf("%d: something is changed", i)
		}
		d = two(t)
		d.Fail(0, 77)
		if e := c.f(d); e != 77 || c.f(d) != c.e {
			t.Errorf("%d: %d instead of what Fail told", i, e)
		}
		d = two(t)
		d.Fail(0, 77)
		d.Crash(0)
		if e := c.f(d); e != api.ErrDown || !d.Down() || d.Calls() != was+1 || c.f(d) != api.ErrDown || d.Calls() != was+1 {
			t.Errorf("%d: %d with the power gone", i, e)
		}
		if d.Boot(nil) != api.OK || d.Used() != 2 || len(d.Names()) != 2 {
			t.Errorf("%d: something is changed", i)
		}
	}
	d := disk.New(nil, 5)
	for i := range api.MaxFiles {
		d.Create(strconv.Itoa(i))
	}
	if d.Create("x") != api.ErrFull || d.Create("0") != api.ErrThere || d.Rename("0", "x") != api.OK {
		t.Error("of MaxFiles")
	}
}

// P18.2, P18.3: what calls do.
func TestCalls(t *testing.T) {
	d := two(t)
	if n, sure, _ := d.Size("a"); n != 3 || sure != 2 {
		t.Errorf("%d %d", n, sure)
	}
	if d.Cut("a", 3) != api.OK || d.Used() != 3 {
		t.Error("Cut of all")
	}
	d.Cut("a", 1)
	d.Append("a", []byte("!"))
	if b, _ := d.Read("a"); string(b) != "x!" || d.Used() != 2 {
		t.Errorf("%q", b)
	}
	if n, sure, _ := d.Size("a"); n != 2 || sure != 1 {
		t.Errorf("%d %d", n, sure)
	}
	d.Fail(0, api.OK)
	d.Sync("a")
	if n, sure, _ := d.Size("a"); n != 2 || sure != 2 {
		t.Errorf("%d %d", n, sure)
	}
	d.Append("b", []byte("bb"))
	if d.Rename("a", "b") != api.OK || !slices.Equal(d.Names(), []string{"b"}) || d.Used() != 2 {
		t.Errorf("%q", d.Names())
	}
	if b, e := d.Read("b"); string(b) != "x!" || e != api.OK {
		t.Errorf("%q", b)
	}
	if b, e := d.Read("a"); b != nil || e != api.ErrNone {
		t.Errorf("%q %d", b, e)
	}
	if n, sure, e := d.Size("a"); n != 0 || sure != 0 || e != api.ErrNone {
		t.Errorf("%d", e)
	}
	if d.Remove("b") != api.OK || d.Used() != 0 || len(d.Names()) != 0 {
		t.Error("Remove")
	}
}

// P18.3: with the power gone.
func TestDown(t *testing.T) {
	d := two(t)
	d.Crash(0)
	if d.Down() || d.Boot(nil) != api.ErrBusy {
		t.Error("Boot with the power there")
	}
	d.Sync("a")
	b, e := d.Read("a")
	n, sure, f := d.Size("a")
	if b != nil || e != api.ErrDown || n != 0 || sure != 0 || f != api.ErrDown || len(d.Names()) != 0 || d.Used() != 0 || !d.Down() || d.Calls() != 3 {
		t.Error("something is answered")
	}
	if _, e := d.Read("?"); e != api.ErrDown {
		t.Errorf("%d", e)
	}
}

// P18.4.
func TestArmed(t *testing.T) {
	for i, c := range []struct {
		arm  func(d *disk.Disk)
		want []api.Errno
	}{
		{func(d *disk.Disk) { d.Fail(1, 5) }, []api.Errno{0, 5, 0, 0}},
		{func(d *disk.Disk) { d.Fail(0, 5); d.Fail(2, 6) }, []api.Errno{0, 0, 6, 0}},
		{func(d *disk.Disk) { d.Fail(0, 5); d.Fail(-1, 6) }, []api.Errno{0, 0, 0, 0}},
		{func(d *disk.Disk) { d.Fail(0, 5); d.Fail(1, 0) }, []api.Errno{0, 0, 0, 0}},
		{func(d *disk.Disk) { d.Fail(math.MaxInt, 5) }, []api.Errno{0, 0, 0, 0}},
		{func(d *disk.Disk) { d.Fail(math.MinInt, 5) }, []api.Errno{0, 0, 0, 0}},

		{func(d *disk.Disk) { d.Crash(1) }, []api.Errno{0, 13, 13, 13}},
		{func(d *disk.Disk) { d.Crash(1); d.Crash(-1) }, []api.Errno{0, 0, 0, 0}},
		{func(d *disk.Disk) { d.Crash(3); d.Crash(2) }, []api.Errno{0, 0, 13, 13}},
		{func(d *disk.Disk) { d.Fail(1, 5); d.Crash(2) }, []api.Errno{0, 5, 13, 13}},
		{func(d *disk.Disk) { d.Fail(1, 5); d.Crash(1) }, []api.Errno{0, 13, 13, 13}},
		{func(d *disk.Disk) { d.Fail(0, -9) }, []api.Errno{-9, 0, 0, 0}},
		{func(d *disk.Disk) { d.Fail(0, api.ErrDown) }, []api.Errno{13, 0, 0, 0}},
	} {
		d := two(t)
		c.arm(d)
		for k, e := range c.want {
			if got := d.Sync("b"); got != e {
				t.Errorf("%d, call %d: %d", i, k, got)
			}
		}
	}
	d := two(t)
	d.Crash(0)
	d.Sync("a")
	d.Fail(0, 5)
	d.Crash(1)
	if d.Boot(nil) != api.OK || d.Sync("a") != api.OK || d.Sync("a") != api.OK || d.Calls() != 5 {
		t.Error("something is armed behind Boot")
	}
}

// P18.5.
func TestBoot(t *testing.T) {
	for i, c := range []struct {
		keep []int
		a, c string
	}{
		{nil, "xy", ""},
		{[]int{0, 0, 0}, "xy", ""},
		{[]int{1, 0, 2}, "xyz", "cc"},
		{[]int{-5, 9}, "xy", ""},
		{[]int{2, 9, math.MaxInt, 7}, "xyzz", "ccc"},
		{[]int{3, 0, 3}, "xyzz", "ccc"},
		{[]int{math.MaxInt, 0, 4}, "xyzz", "ccc"},
		{[]int{math.MinInt, 0, 1}, "xy", "c"},
	} {
		d := disk.New([]api.File{{Name: "a", Data: []byte("xy")}}, 10)
		d.Append("a", []byte("zz"))
		d.Create("c")
		d.Create("b")
		d.Append("c", []byte("ccc"))
		d.Crash(0)
		d.Sync("a")
		if d.Boot(c.keep) != api.OK || d.Down() {
			t.Fatal("Boot")
		}
		a, _ := d.Read("a")
		x, _ := d.Read("c")
		if string(a) != c.a || string(x) != c.c || d.Used() != len(c.a)+len(c.c) || len(d.Names()) != 3 {
			t.Errorf("%d: %q %q", i, a, x)
		}
		for _, name := range d.Names() {
			if n, sure, _ := d.Size(name); n != sure {
				t.Errorf("%d: %q isn't sure", i, name)
			}
		}
		if d.Boot(nil) != api.ErrBusy {
			t.Error("Boot twice")
		}
	}
}

// P18.2: all bytes together never are more than the capacity.
func TestModel(t *testing.T) {
	rnd := rand.New(rand.NewSource(1))
	for range 300 {
		capacity := 1 + rnd.Intn(50)
		d := disk.New(nil, capacity)
		model := map[string]string{}
		for range 60 {
			a, b := strconv.Itoa(rnd.Intn(4)), strconv.Itoa(rnd.Intn(4))
			switch rnd.Intn(6) {
			case 0:
				if _, there := model[a]; (d.Create(a) == api.OK) == there {
					t.Fatal("Create")
				} else if !there {
					model[a] = ""
				}
			case 1, 2:
				s := strings.Repeat(b, rnd.Intn(20))
				if d.Append(a, []byte(s)) == api.OK {
					model[a] += s
				}
			case 3:
				if n := rnd.Intn(20); d.Cut(a, n) == api.OK {
					model[a] = model[a][:n]
				}
			case 4:
				if d.Rename(a, b) == api.OK {
					s := model[a]
					delete(model, a)
					model[b] = s
				}
			case 5:
				if rnd.Intn(2) == 0 && d.Remove(a) == api.OK {
					delete(model, a)
				}
			}
			used := 0
			for name, s := range model {
				used += len(s)
				if got, e := d.Read(name); e != api.OK || string(got) != s {
					t.Fatalf("%q, not %q", got, s)
				}
			}
			if d.Used() != used || used > capacity || len(d.Names()) != len(model) {
				t.Fatalf("%d, not %d", d.Used(), used)
			}
		}
	}
}

// P18.6.
func TestMemory(t *testing.T) {
	in := []byte("ab")
	d := disk.New([]api.File{{Name: "a", Data: in}}, 100)
	in[0] = 'x'
	more := []byte("cd")
	d.Append("a", more)
	more[0] = 'x'
	out, _ := d.Read("a")
	out[0] = 'y'
	d.Names()[0] = "q"
	if got, _ := d.Read("a"); !bytes.Equal(got, []byte("abcd")) || d.Names()[0] != "a" {
		t.Errorf("%q", got)
	}
}
