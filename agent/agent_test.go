package agent_test

import (
	"bytes"
	"math"
	"slices"
	"strings"
	"testing"

	"limnograph/agent"
	"limnograph/api"
	"limnograph/convert"
	"limnograph/disk"
	"limnograph/frame"
	"limnograph/pack"
	"limnograph/point"
	"limnograph/segment"
	"limnograph/snap"
	"limnograph/store"
)

// cfg is a right configuration.
func cfg() api.Config {
	return api.Config{Out: api.Delta, Series: 3, Buckets: 10, Points: 20, Bytes: 4096, Window: 2}
}

// sum is the n-th point of a whole sum.
func sum(name string, n int) api.Point {
	return api.Point{Name: name, Kind: api.IntSum, Temp: api.Cumul, Mono: true, Time: 10*n + 10, Int: n * n}
}

// open is an agent on a disk.
func open(t *testing.T, d *disk.Disk) *agent.Agent {
	t.Helper()
	a, e := agent.Open(cfg(), d)
	if e != api.OK {
		t.Fatalf("Open: %d", e)
	}
	return a
}

// ingest lets an agent take points in.
func ingest(t *testing.T, a *agent.Agent, l ...api.Point) {
	t.Helper()
	for _, p := range l {
		if e := a.Ingest(p); e != api.OK {
			t.Fatalf("Ingest: %d", e)
		}
	}
}

// off lets the power go and come again.
func off(d *disk.Disk, keep ...int) {
	if !d.Down() {
		d.Crash(0)
		d.Create("x")
	}
	d.Boot(keep)
}

// P26.1: Good.
func TestGood(t *testing.T) {
	for i, f := range []func(c *api.Config){
		func(c *api.Config) {},
		func(c *api.Config) { c.Bytes = 4096; c.Window = 1 },
		func(c *api.Config) { c.Window = 16; c.Bytes = 65536; c.Disk = -7 },
		func(c *api.Config) { c.Out = 3 },
		func(c *api.Config) { c.Series = 17 },
		func(c *api.Config) { c.Buckets = 0 },
		func(c *api.Config) { c.Points = 129 },
		func(c *api.Config) { c.Bytes = 4095 },

		func(c *api.Config) { c.Bytes = 65537 },
		func(c *api.Config) { c.Window = 0 },
		func(c *api.Config) { c.Window = 17 },
		func(c *api.Config) { c.Window = math.MinInt },
	} {
		c := cfg()
		f(&c)
		a, e := agent.Open(c, disk.New(nil, 1000))
		if ok := i < 3; agent.Good(c) != ok || (a != nil) != ok || !ok && e != api.ErrArg {
			t.Errorf("%d: %d", i, e)
		}
	}
	d := disk.New(nil, 1000)
	off(d)
	d.Crash(0)
	d.Create("x")
	if a, e := agent.Open(cfg(), d); a != nil || e != api.ErrDown {
		t.Errorf("%d", e)
	}
	if _, e := agent.Open(api.Config{}, d); e != api.ErrArg {
		t.Errorf("%d", e)
	}
}

// P26.1, P26.4: a new agent.
func TestNew(t *testing.T) {
	d := disk.New(nil, 1000)
	a := open(t, d)
	if a.Next() != 0 || a.Sealed() != 0 || a.Acked() != 0 || a.Left() != 0 || a.Live() != 0 || len(a.Head()) != 0 || !bytes.Equal(a.State(), []byte{0}) || len(a.Tick()) != 0 {
		t.Error("it has something")
	}
	if !slices.Equal(d.Names(), []string{"wal-0"}) || d.Used() != 0 {
		t.Errorf("%q", d.Names())
	}
}

// frames are the frames of payloads, as a file.
func frames(name string, l ...[]byte) api.File {
	f := api.File{Name: name}
	for _, p := range l {
		b, _ := frame.Wrap(p)
		f.Data = append(f.Data, b...)
	}
	return f
}

// metaFile is the snapshot "meta".
func metaFile(sealed, generation uint64, saved []byte, more ...byte) api.File {
	w := pack.NewWriter()
	w.Num(sealed)
	w.Num(generation)
	w.Text(string(saved))
	w.Raw(more)
	return frames("meta", w.Bytes())
}

// ackFile is the snapshot "ack".
func ackFile(n uint64) api.File {
	w := pack.NewWriter()
	w.Fix(n)
	return frames("ack", w.Bytes())
}

// segFile is a segment's file.
func segFile(first, n int) api.File {
	var l []api.Point
	for i := range n {
		p := sum("a", i)
		p.Temp = api.Delta
		l = append(l, p)
	}
	b, _ := segment.Encode(cfg(), first, l)
	return frames(store.Name(first), b)
}

// P26.1: what is on the disk.
func TestOpen(t *testing.T) {
	rec := func(p api.Point) []byte {
		b, _ := point.Bytes(p)
		return b
	}
	var many, heavy [][]byte
	for i := range 257 {
		many = append(many, rec(sum("a", i)))
	}
	h := api.Point{Name: "h", Kind: api.Histo, Temp: api.Delta}
	for range 10 {
		h.Hist.Pos.Counts = append(h.Hist.Pos.Counts, 1<<50)
	}
	for range 80 {
		h.Start, h.Time = h.Time, h.Time+1
		heavy = append(heavy, rec(h))
	}
	junk := api.File{Name: "meta", Data: []byte("junk")}
	empty := []byte{0}
	for i, c := range []struct {
		files []api.File
		e     api.Errno
		next  int
		names []string
	}{
		{nil, api.OK, 0, []string{"wal-0"}},
		{[]api.File{junk}, api.ErrBroken, 0, nil},
		{[]api.File{frames("meta", nil)}, api.ErrBroken, 0, nil},
		{[]api.File{metaFile(0, 0, empty)}, api.OK, 0, []string{"meta", "wal-0"}},
		{[]api.File{metaFile(0, 0, empty, 0)}, api.ErrBroken, 0, nil},
		{[]api.File{metaFile(0, 0, nil)}, api.ErrBroken, 0, nil},
		{[]api.File{metaFile(0, 0, []byte{1})}, api.ErrBroken, 0, nil},

		{[]api.File{metaFile(0, api.MaxOrd, empty)}, api.OK, 0, []string{"meta", "wal-4503599627370496"}},
		{[]api.File{metaFile(0, api.MaxOrd+1, empty)}, api.ErrBroken, 0, nil},
		{[]api.File{metaFile(1, 0, empty)}, api.ErrBroken, 0, nil},
		{[]api.File{metaFile(1, 0, empty), ackFile(1)}, api.OK, 1, []string{"ack", "meta", "wal-0"}},
		{[]api.File{metaFile(1, 0, empty), ackFile(2)}, api.ErrBroken, 0, nil},
		{[]api.File{ackFile(1)}, api.ErrBroken, 0, nil},

		{[]api.File{metaFile(api.MaxOrd+1, 3, empty), ackFile(api.MaxOrd + 1)}, api.OK, api.MaxOrd + 1, []string{"ack", "meta", "wal-3"}},
		{[]api.File{metaFile(api.MaxOrd+2, 3, empty), ackFile(api.MaxOrd + 1)}, api.ErrBroken, 0, nil},
		{[]api.File{metaFile(api.MaxOrd+1, 3, empty), ackFile(api.MaxOrd + 1), frames("wal-3", many[0])}, api.ErrBroken, 0, nil},
		{[]api.File{metaFile(api.MaxOrd, 3, empty), ackFile(api.MaxOrd), frames("wal-3", many[0])}, api.OK, api.MaxOrd + 1, []string{"ack", "meta", "wal-3"}},

		{
			[]api.File{
				metaFile(3, 1, empty),
				segFile(0, 2),
				segFile(2, 1),
				segFile(3, 1),
				frames("wal-0", []byte("old")),
				frames("wal-1", many[:2]...),
				frames("wal-2", []byte("new")),
				{Name: "meta.new"},
				{Name: "ack.new"},
				{Name: "other"},
			},
			api.OK,
			5,
			[]string{"meta", "other", "seg-0000000000000000", "seg-0000000000000002", "wal-1"},
		},

		{[]api.File{metaFile(3, 1, empty), ackFile(2), segFile(0, 2), segFile(2, 1)}, api.OK, 3, []string{"ack", "meta", "seg-0000000000000002", "wal-1"}},
		{[]api.File{metaFile(3, 1, empty), segFile(0, 2)}, api.ErrBroken, 0, nil},
		{[]api.File{{Name: "seg-1"}}, api.ErrBroken, 0, nil},
		{[]api.File{frames("ack", []byte("x"))}, api.ErrBroken, 0, nil},

		{[]api.File{frames("wal-0", many[:256]...)}, api.OK, 256, []string{"wal-0"}},
		{[]api.File{frames("wal-0", many...)}, api.ErrBroken, 0, nil},
		{[]api.File{frames("wal-0", heavy...)}, api.ErrBroken, 0, nil},
		{[]api.File{frames("wal-0", heavy[:50]...)}, api.OK, 50, []string{"wal-0"}},
		{[]api.File{frames("wal-0", many[1], many[0])}, api.ErrBroken, 0, nil},
		{[]api.File{frames("wal-0", []byte("x"))}, api.ErrBroken, 0, nil},

		{[]api.File{{Name: "wal-0", Data: append(frames("wal-0", many[0]).Data, 0xa5, 7)}}, api.OK, 1, []string{"wal-0"}},
		{[]api.File{{Name: "wal-0", Data: append(frames("wal-0", many[0]).Data, 7)}}, api.ErrBroken, 0, nil},
	} {
		d := disk.New(c.files, api.MaxDisk)
		a, e := agent.Open(cfg(), d)
		if e != c.e || (a != nil) != (e == api.OK) {
			t.Errorf("%d: %d", i, e)
		}
		if a == nil {
			continue
		}
		if a.Next() != c.next || !slices.Equal(d.Names(), c.names) || a.Acked() > a.Sealed() || a.Sealed() > a.Next() || a.Live() > 3 {
			t.Errorf("%d: %d %q", i, a.Next(), d.Names())
		}
	}
}

// P26.1: calls that fail.
func TestOpenFails(t *testing.T) {
	files := []api.File{
		metaFile(3, 1, []byte{0}),
		segFile(0, 2),
		segFile(2, 1),
		segFile(3, 1),
		{Name: "wal-0"},
		{Name: "wal-2"},
		{Name: "meta.new"},
		{Name: "ack.new"},
		ackFile(2),
		{Name: "wal-1", Data: []byte{0xa5}},
	}
	for after := range 9 {
		d := disk.New(files, api.MaxDisk)
		d.Fail(after, 77)
		a, e := agent.Open(cfg(), d)
		if ok := after > 6; (a != nil) != ok || !ok && e != 77 {
			t.Errorf("call %d: %d", after, e)
		}
		d.Fail(-1, 0)
		if a := open(t, d); a.Next() != 3 || a.Left() != 1 {
			t.Errorf("call %d: %d", after, a.Next())
		}
	}
}

// P26.2: the errors of Ingest.
func TestIngest(t *testing.T) {
	d := disk.New(nil, 2000)
	a := open(t, d)
	ingest(t, a, sum("a", 1), sum("b", 1))
	for i, c := range []struct {
		p api.Point
		e api.Errno
	}{{api.Point{}, api.ErrForm}, {sum("a", 1), api.ErrOrder}, {sum("c", 1), api.OK}, {sum("d", 1), api.ErrFull}} {
		state, used := a.State(), d.Used()
		if e := a.Ingest(c.p); e != c.e || e != api.OK && (!bytes.Equal(state, a.State()) || used != d.Used()) {
			t.Errorf("%d: %d", i, e)
		}
	}
	if a.Next() != 3 || a.Live() != 3 || len(a.Head()) != 3 {
		t.Errorf("%d", a.Next())
	}
	for i, p := range a.Head() {
		if p.Flags != api.First || p.Int != 1 || p.Temp != api.Delta {
			t.Errorf("%d: %v", i, p)
		}
	}
	d.Fail(0, 77)
	if e := a.Ingest(sum("a", 2)); e != 77 || a.Next() != 3 {
		t.Errorf("%d", e)
	}
	d.Fail(0, 77)
	if e := a.Sync(); e != 77 {
		t.Errorf("%d", e)
	}
	if a.Sync() != api.OK || a.Ingest(sum("a", 2)) != api.OK {
		t.Error("Sync")
	}
	d.Crash(0)
	if a.Sync() != api.ErrDown || a.Ingest(api.Point{}) != api.ErrDown || a.Seal() != api.ErrDown || len(a.Tick()) != 0 || a.Next() != 4 || a.Sealed() != 0 {
		t.Error("with the power gone")
	}
	none := disk.New(nil, 30)
	a = open(t, none)
	none.Crash(0)
	if a.Sync() != api.ErrDown || a.Seal() != api.ErrDown {
		t.Error("without a head")
	}
	small := disk.New(nil, 30)
	a = open(t, small)
	ingest(t, a, sum("a", 1))
	state := a.State()
	if e := a.Ingest(sum("a", 2)); e != api.ErrSpace || a.Next() != 1 || !bytes.Equal(state, a.State()) || a.Seal() != api.ErrSpace || !slices.Equal(small.Names(), []string{"wal-0"}) {
		t.Errorf("%d %q", e, small.Names())
	}
	full := disk.New([]api.File{metaFile(api.MaxOrd, 0, []byte{0}), ackFile(api.MaxOrd)}, 5000)
	a = open(t, full)
	ingest(t, a, sum("a", 1))
	if e := a.Ingest(sum("a", 2)); e != api.ErrLarge || a.Ingest(sum("a", 1)) != api.ErrOrder || a.Next() != api.MaxOrd+1 {
		t.Errorf("%d", e)
	}
	if e := a.Seal(); e != api.OK || a.Sealed() != api.MaxOrd+1 {
		t.Errorf("%d", e)
	}
	if e := a.Ingest(sum("a", 2)); e != api.ErrLarge {
		t.Errorf("%d", e)
	}
}

// P26.2: sealing when the head is full.
func TestFullHead(t *testing.T) {
	a := open(t, disk.New(nil, api.MaxDisk))
	for i := range 600 {
		ingest(t, a, sum("a", i+1))
		if want := i / 256 * 256; a.Sealed() != want || a.Next() != i+1 || len(a.Head()) != i+1-want {
			t.Fatalf("%d: %d", i, a.Sealed())
		}
	}
	d := disk.New(nil, api.MaxDisk)
	a = open(t, d)
	h := api.Point{Name: strings.Repeat("h", 32), Kind: api.Histo, Temp: api.Delta}
	for range 10 {
		h.Hist.Pos.Counts = append(h.Hist.Pos.Counts, 1<<50)
		h.Hist.Neg.Counts = append(h.Hist.Neg.Counts, 1<<50)
	}
	weight, w := 0, 0
	for range 100 {
		h.Start, h.Time = h.Time, h.Time+1
		was := a.Sealed()
		ingest(t, a, h)
		head := a.Head()
		b, _ := point.Bytes(head[len(head)-1])
		w = 9*len(b) + 100
		if over := weight+w > 60000; (a.Sealed() > was) != over {
			t.Fatalf("%d: %d", a.Next(), weight)
		} else if over {
			weight = 0
		}
		weight += w
	}
	if a.Sealed() == 0 {
		t.Error("nothing was sealed")
	}
	for weight+w <= 60000 {
		h.Start, h.Time = h.Time, h.Time+1
		ingest(t, a, h)
		weight += w
	}
	was := a.State()
	next := a.Next()
	h.Start, h.Time = h.Time, h.Time+1
	d.Fail(0, 77)
	if e := a.Ingest(h); e != 77 || a.Next() != next || !bytes.Equal(was, a.State()) {
		t.Errorf("%d", e)
	}
	if e := a.Ingest(h); e != api.OK || a.Sealed() != next || a.Next() != next+1 {
		t.Errorf("%d", e)
	}
}

// gauge is a gauge whose bytes are 16 up to the time 127, and one more up to 16383.
func gauge(time int) api.Point {
	return api.Point{Name: "x", Kind: api.Gauge, Start: time, Time: time}
}

// P26.2: a head of just the greatest weight, and of one more.
func TestWeight(t *testing.T) {
	for i, c := range []struct{ short, long, sealed int }{{80, 160, 1}, {108, 133, 241}} {
		d := disk.New(nil, api.MaxDisk)
		a := open(t, d)
		ingest(t, a, gauge(0))
		a.Seal()
		for n := range c.short {
			ingest(t, a, gauge(n+1))
		}
		for n := range c.long {
			ingest(t, a, gauge(200+n))
		}
		if a.Sealed() != c.sealed || a.Next() != 1+c.short+c.long {
			t.Errorf("%d: %d of %d", i, a.Sealed(), a.Next())
		}
		if b := open(t, d); b.Next() != a.Next() || b.Sealed() != a.Sealed() {
			t.Errorf("%d: opened %d of %d", i, b.Sealed(), b.Next())
		}
	}
}

// P26.2: sealing, and what is undone.
func TestSeal(t *testing.T) {
	for after := range 13 {
		d := disk.New(nil, api.MaxDisk)
		a := open(t, d)
		if a.Seal() != api.OK || d.Calls() != 1 {
			t.Fatal("an empty head is sealed")
		}
		ingest(t, a, sum("a", 1), sum("b", 1), sum("a", 2))
		head, state := a.Head(), a.State()
		d.Fail(after, 77)
		e := a.Seal()
		// The log's Sync, three calls of the segment, the new log, four of "meta": then it is done.
		if ok := after > 8; (e == api.OK) != ok || !ok && e != 77 {
			t.Fatalf("call %d: %d", after, e)
		}
		if !bytes.Equal(state, a.State()) || a.Next() != 3 {
			t.Errorf("call %d: %d", after, a.Next())
		}
		if e != api.OK {
			if a.Sealed() != 0 || len(a.Head()) != len(head) || !slices.Equal(d.Names(), []string{"wal-0"}) || len(a.Tick()) != 0 {
				t.Errorf("call %d: %q", after, d.Names())
			}
			continue
		}
		names := []string{"meta", "seg-0000000000000000", "wal-1"}
		if after == 9 {
			names = []string{"meta", "seg-0000000000000000", "wal-0", "wal-1"}
		}
		if a.Sealed() != 3 || len(a.Head()) != 0 || a.Left() != 1 || !slices.Equal(d.Names(), names) {
			t.Errorf("call %d: %q", after, d.Names())
		}
		b, _, _ := snap.Load(d, "meta")
		w := pack.NewWriter()
		w.Num(3)
		w.Num(1)
		w.Text(string(state))
		if !bytes.Equal(b, w.Bytes()) {
			t.Errorf("call %d: %x", after, b)
		}
	}
}

// P26.2: what is in the way.
func TestInTheWay(t *testing.T) {
	segments, logs := 0, 0
	for fill := range 150 {
		for after := 4; after < 12; after++ {
			d := disk.New(nil, 200)
			a := open(t, d)
			ingest(t, a, sum("a", 1), sum("b", 1))
			d.Create("fill")
			if d.Append("fill", make([]byte, fill)) != api.OK {
				continue
			}
			// Where there is too little room for "meta", what undoes it fails as well.
			d.Fail(after, 77)
			if e := a.Seal(); e != api.ErrSpace {
				continue
			}
			if slices.Contains(d.Names(), store.Name(0)) {
				segments++
			}
			if slices.Contains(d.Names(), "wal-1") {
				logs++
			}
			d.Fail(-1, 0)
			d.Remove("fill")
			ingest(t, a, sum("a", 2))
			if slices.Contains(d.Names(), store.Name(0)) {
				d.Fail(1, 77)
				if e := a.Seal(); e != 77 {
					t.Fatalf("%d, %d: %d", fill, after, e)
				}
			}
			if slices.Contains(d.Names(), "wal-1") {
				d.Fail(4, 77)
				if e := a.Seal(); e != 77 {
					t.Fatalf("%d, %d: %d", fill, after, e)
				}
			}
			if e := a.Seal(); e != api.OK || a.Sealed() != 3 || !slices.Equal(d.Names(), []string{"meta", store.Name(0), "wal-1"}) {
				t.Fatalf("%d, %d: %d %q", fill, after, e, d.Names())
			}
			m := a.Tick()
			if _, l, e := segment.Decode(m[0].Data); e != api.OK || len(l) != 3 {
				t.Fatalf("%d, %d: %d", fill, after, e)
			}
		}
	}
	if segments == 0 || logs == 0 {
		t.Errorf("%d segments and %d logs were in the way", segments, logs)
	}
	d := disk.New([]api.File{metaFile(0, api.MaxOrd, []byte{0})}, 5000)
	a := open(t, d)
	ingest(t, a, sum("a", 1))
	if e := a.Seal(); e != api.OK || !slices.Equal(d.Names(), []string{"meta", "seg-0000000000000000", "wal-0"}) {
		t.Errorf("%d %q", e, d.Names())
	}
}

// P26.3.
func TestTickTake(t *testing.T) {
	d := disk.New(nil, api.MaxDisk)
	a := open(t, d)
	for i := range 3 {
		ingest(t, a, sum("a", 2*i+1), sum("a", 2*i+2))
		a.Seal()
	}
	firsts := func() []int {
		var l []int
		for _, m := range a.Tick() {
			first, _, e := segment.Decode(m.Data)
			if e != api.OK || m.Ack || m.Have != 0 {
				t.Fatalf("%v", m)
			}
			l = append(l, first)
		}
		return l
	}
	for i, c := range []struct {
		m     api.Msg
		e     api.Errno
		acked int
		left  int
		due   []int
	}{
		{api.Msg{}, api.ErrArg, 0, 3, []int{0, 2}},
		{api.Msg{Have: 2, Data: []byte("x")}, api.ErrArg, 0, 3, []int{0, 2}},
		{api.Msg{Ack: true}, api.OK, 0, 3, []int{0, 2}},
		{api.Msg{Ack: true, Have: 7}, api.OK, 0, 3, []int{0, 2}},
		{api.Msg{Ack: true, Have: -1}, api.OK, 0, 3, []int{0, 2}},
		{api.Msg{Ack: true, Have: 1}, api.OK, 1, 3, []int{0, 2}},
		{api.Msg{Ack: true, Have: 2}, api.OK, 2, 2, []int{2, 4}},
		{api.Msg{Ack: true, Have: 5}, api.OK, 5, 1, []int{4}},
		{api.Msg{Ack: true, Have: 4}, api.OK, 5, 1, []int{4}},
	} {
		if e := a.Take(c.m); e != c.e || a.Acked() != c.acked || a.Left() != c.left || !slices.Equal(firsts(), c.due) {
			t.Errorf("%d: %d, acked %d, left %d, due %v", i, e, a.Acked(), a.Left(), firsts())
		}
	}
	if slices.Contains(d.Names(), store.Name(0)) || !slices.Contains(d.Names(), store.Name(4)) {
		t.Errorf("%q", d.Names())
	}
	d.Fail(0, 77)
	if e := a.Take(api.Msg{Ack: true, Have: 6}); e != 77 || a.Acked() != 5 {
		t.Errorf("%d", e)
	}
	d.Fail(4, 77)
	if e := a.Take(api.Msg{Ack: true, Have: 6}); e != 77 || a.Acked() != 6 || a.Left() != 0 || len(a.Tick()) != 0 {
		t.Errorf("%d", e)
	}
	if b := open(t, d); b.Acked() != 6 || b.Left() != 0 || slices.Contains(d.Names(), store.Name(4)) {
		t.Errorf("%q", d.Names())
	}
	ingest(t, a, sum("a", 9))
	a.Seal()
	d.Append(store.Name(6), []byte("x"))
	if len(a.Tick()) != 0 || a.Left() != 1 {
		t.Error("a file that can't be read")
	}
}

// made is what a converter makes of points.
func made(t *testing.T, l []api.Point) []api.Point {
	t.Helper()
	c := convert.New(cfg())
	var out []api.Point
	for _, p := range l {
		q, e := c.Take(p)
		if e != api.OK {
			t.Fatalf("Take: %d", e)
		}
		out = append(out, q)
	}
	return out
}

// P26.5: nothing sure is lost, whenever the power goes and whatever it keeps.
func TestCrash(t *testing.T) {
	for after := range 45 {
		for _, keep := range [][]int{nil, {1, 2, 3, 4, 5, 6}, {20, 20, 20, 20, 20, 20}, {999, 999, 999, 999, 999, 999}} {
			d := disk.New(nil, api.MaxDisk)
			a := open(t, d)
			d.Crash(after)
			var accepted []api.Point
			sure, acked := 0, 0
			for i := 0; !d.Down() && i < 20; i++ {
				if a.Ingest(sum("a", i)) == api.OK {
					accepted = append(accepted, sum("a", i))
				}
				if i%3 == 2 && a.Sync() == api.OK || i%5 == 4 && a.Seal() == api.OK {
					sure = len(accepted)
				}
				if i%7 == 6 && a.Take(api.Msg{Ack: true, Have: a.Sealed()}) == api.OK {
					acked = a.Acked()
				}
			}
			sealed := a.Sealed()
			off(d, keep...)
			b := open(t, d)
			if b.Next() < sure || b.Next() > len(accepted) || b.Sealed() != sealed || b.Acked() < acked || b.Acked() != a.Acked() {
				t.Fatalf("call %d, %v: %d of %d, %d sure; sealed %d, not %d", after, keep, b.Next(), len(accepted), sure, b.Sealed(), sealed)
			}
			whole := made(t, accepted[:b.Next()])
			for i, p := range b.Head() {
				if !point.Same(p, whole[b.Sealed()+i]) {
					t.Fatalf("call %d: %v", after, p)
				}
			}
			names := d.Names()
			if open(t, d); !slices.Equal(names, d.Names()) {
				t.Fatal("opened again")
			}
			more := sum("a", 50)
			ingest(t, b, more)
			whole = made(t, append(slices.Clone(accepted[:b.Next()-1]), more))
			if head := b.Head(); !point.Same(head[len(head)-1], whole[len(whole)-1]) {
				t.Fatalf("call %d: it doesn't go on", after)
			}
		}
	}
}

// P26.5: memory.
func TestMemory(t *testing.T) {
	a := open(t, disk.New(nil, 1000))
	p := sum("a", 1)
	p.Attrs = []api.Pair{{Key: "k", Val: "v"}}
	ingest(t, a, p)
	state := a.State()
	p.Attrs[0].Key = "z"
	a.Head()[0].Attrs[0].Key = "y"
	a.State()[0] = 9
	if a.Head()[0].Attrs[0].Key != "k" || !bytes.Equal(state, a.State()) {
		t.Error("memory is shared")
	}
	a.Seal()
	a.Tick()[0].Data[0] = 99
	if _, _, e := segment.Decode(a.Tick()[0].Data); e != api.OK {
		t.Error("Tick isn't new")
	}
}
