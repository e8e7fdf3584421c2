package promises_test

import (
	"math"
	"math/rand"
	"strings"
	"testing"

	"limnograph/agent"
	"limnograph/api"
	"limnograph/bitio"
	"limnograph/chunk"
	"limnograph/conf"
	"limnograph/convert"
	"limnograph/crc"
	"limnograph/disk"
	"limnograph/fold"
	"limnograph/frame"
	"limnograph/glob"
	"limnograph/hist"
	"limnograph/histbits"
	"limnograph/index"
	"limnograph/label"
	"limnograph/net"
	"limnograph/num"
	"limnograph/otlp"
	"limnograph/pack"
	"limnograph/point"
	"limnograph/query"
	"limnograph/relabel"
	"limnograph/rollup"
	"limnograph/rounds"
	"limnograph/script"
	"limnograph/segment"
	"limnograph/ship"
	"limnograph/sink"
	"limnograph/snap"
	"limnograph/store"
	"limnograph/symtab"
	"limnograph/table"
	"limnograph/tocum"
	"limnograph/todelta"
	"limnograph/vary"
	"limnograph/wal"
	"limnograph/wire"
	"limnograph/world"
	"limnograph/xor"
)

// wild makes arguments of all sorts, right and wrong.
type wild struct {
	*rand.Rand
}

// int is a number of any size, often at an edge.
func (r wild) int() int {
	edges := []int{0, 1, -1, 2, 5, 64, 128, 160, 256, 4096, 65536, 1 << 20, 1 << 30, 1 << 52, 1 << 53, math.MaxInt, math.MinInt}
	switch r.Intn(4) {
	case 0:
		return int(r.Uint64())
	case 1:
		return r.Intn(20) - 5
	}
	return edges[r.Intn(len(edges))] + r.Intn(3) - 1
}

// small is a number that doesn't take long.
func (r wild) small() int {
	return r.Intn(40) - 10
}

// bytes is any bytes.
func (r wild) bytes() []byte {
	b := make([]byte, r.Intn(40))
	r.Read(b)
	for i := range b {
		if r.Intn(2) == 0 {
			b[i] &= 0x0f
		}
	}
	return b
}

// text is a text, often a right one for something.
func (r wild) text() string {
	some := []string{
		"",
		"x",
		"cpu;a=1",
		"cpu 111",
		"x 300",
		"a*[b-d]?",
		"[",
		"out delta\n",
		"keep - \"*\"\n",
		"point x int delta any 0 10 5\n",
		"seg-0000000000000000",
		"wal-0",
		"meta",
		"ack",
		"seg-1",
		"a",
		"\\",
		strings.Repeat("z", 70),
	}
	if r.Intn(3) == 0 {
		return string(r.bytes())
	}
	return some[r.Intn(len(some))]
}

// counts are counts of a side.
func (r wild) counts() []uint64 {
	var l []uint64
	n := r.Intn(6)
	if r.Intn(10) == 0 {
		n = 150 + r.Intn(20)
	}
	for range n {
		l = append(l, r.Uint64()>>r.Intn(64)>>r.Intn(2))
	}
	return l
}

// hist is a histogram.
func (r wild) hist() api.Hist {
	h := api.Hist{Scale: r.small(), Zero: uint64(r.int()), Pos: api.Side{Offset: r.int(), Counts: r.counts()}, Neg: api.Side{Offset: r.small(), Counts: r.counts()}}
	if r.Intn(2) == 0 {
		h = api.Hist{Scale: r.Intn(5), Pos: api.Side{Offset: r.small(), Counts: []uint64{1, uint64(r.Intn(3)), 2}}}
	}
	return h
}

// point is a point.
func (r wild) point() api.Point {
	p := api.Point{Name: r.text(), Kind: r.Intn(7), Temp: r.Intn(4), Mono: r.Intn(4) == 0, Start: r.Intn(20), Time: r.Intn(40), Flags: r.Intn(3) * r.Intn(20)}
	switch r.Intn(6) {
	case 0:
		p.Start, p.Time = r.int(), r.int()
	case 1:
		p.Attrs = []api.Pair{{Key: r.text(), Val: r.text()}, {Key: "k", Val: "v"}}
	case 2:
		p.Int, p.Re, p.Im, p.Hist = r.int(), r.Uint64(), r.Uint64(), r.hist()
	case 3:
		p = api.Point{Name: "x", Kind: 4, Temp: 1 + r.Intn(2), Start: r.Intn(10), Time: 10 + r.Intn(9), Hist: r.hist()}
	case 4:
		p = api.Point{Name: "x", Kind: 1, Temp: 1 + r.Intn(2), Start: r.Intn(10), Time: 10 + r.Intn(9), Int: r.int()}
	}
	return p
}

// points are some.
func (r wild) points() []api.Point {
	var l []api.Point
	for range r.Intn(5) {
		l = append(l, r.point())
	}
	return l
}

// config is a configuration, every other one right.
func (r wild) config() api.Config {
	if r.Intn(2) == 0 {
		return api.Config{Out: r.small(), Series: r.int(), Buckets: r.int(), Points: r.int(), Bytes: r.int(), Disk: r.int(), Window: r.int()}
	}
	return api.Config{Out: r.Intn(3), Series: 3, Buckets: 20, Points: 20, Bytes: 4096, Disk: 1 + r.Intn(3000), Window: 2}
}

// rule is a rule.
func (r wild) rule() api.Rule {
	return api.Rule{Kind: r.Intn(8) - 1, Key: r.text(), Glob: r.text(), To: r.text(), Val: r.text()}
}

// disk is a disk with files.
func (r wild) disk() *disk.Disk {
	var l []api.File
	for range r.Intn(4) {
		b := r.bytes()
		if r.Intn(2) == 0 {
			b, _ = frame.Wrap(b)
		}
		l = append(l, api.File{Name: r.text(), Data: b})
	}
	if d := disk.New(l, r.int()); d != nil {
		return d
	}
	return disk.New(nil, 1000)
}

// P1: no call of the first layers panics, and each ends.
func TestWildBits(t *testing.T) {
	r := wild{rand.New(rand.NewSource(1))}
	for range 3000 {
		w := bitio.NewWriter()
		w.Put(uint64(r.int()), r.int())
		w.PutBits(r.bytes(), r.int())
		w.Cut(r.int())
		rd, e := bitio.NewReader(w.Bytes(), w.Len())
		if e != api.OK {
			t.Fatal("NewReader")
		}
		rd.Take(r.int())
		rd.Look(r.int())
		rd.Skip(r.int())
		bitio.NewReader(r.bytes(), r.int())
		p := pack.NewReader(r.bytes())
		for range 5 {
			p.Num()
			p.Count(r.int())
			p.Text(r.int())
			p.Raw(r.int())
			p.Int()
			p.Fix()
		}
		crc.Join(uint32(r.int()), uint32(r.int()), r.int())
		frame.First(r.bytes())
		frame.Scan(append([]byte{0xa5}, r.bytes()...))
		frame.Size(r.int())
		num.Add(r.Uint64(), r.Uint64())
		num.Turn(r.Uint64(), r.Uint64())
		b := r.bytes()
		rd, _ = bitio.NewReader(b, 8*len(b))
		ints, floats, hists := vary.NewRow(), xor.NewRow(), histbits.NewRow()
		for range 5 {
			vary.Get(rd)
			ints.Get(rd)
			floats.Get(rd)
			hists.Get(rd)
		}
		xor.Cost([]uint64{r.Uint64(), r.Uint64()})
		h := r.hist()
		hist.At(h.Pos, r.int())
		hist.Trim(h.Pos)
		hist.Total(h)
		if d, e := hist.Down(h, r.int()); e == api.OK && hist.Check(d) != api.OK {
			t.Fatalf("Down: %v", d)
		}
		if d, e := hist.Fit(h, r.int()); e == api.OK && hist.Check(d) != api.OK {
			t.Fatal("Fit")
		}
		if d, e := fold.Merge(h, r.hist()); e == api.OK && hist.Check(d) != api.OK {
			t.Fatal("Merge")
		}
		if d, e := fold.Sub(h, r.hist()); e == api.OK && hist.Check(d) != api.OK {
			t.Fatal("Sub")
		}
		fold.Sum([]api.Hist{h, r.hist(), r.hist()})
		tocum.Together(h, r.hist(), r.int())
		hists.Put(bitio.NewWriter(), h)
	}
}

// P1: no call of the layers of points panics, and each ends; what is answered is right.
func TestWildPoints(t *testing.T) {
	r := wild{rand.New(rand.NewSource(2))}
	for range 3000 {
		p := r.point()
		label.Check(p.Name, p.Attrs)
		label.Parse(r.text())
		label.Matches(p.Name, p.Attrs, r.text(), p.Attrs)
		point.Check(p)
		point.Key(p)
		if b, e := point.Bytes(p); e == api.OK {
			point.Read(b)
		}
		point.Read(r.bytes())
		point.Same(p, r.point())
		if c, e := chunk.New(p, r.int()); e == api.OK {
			c.Add(r.int(), p)
			c.Add(r.small(), r.point())
			c.Size()
		}
		chunk.Read(r.bytes())
		chunk.Series(r.text())
		x := table.New[int](r.int())
		x.Put(r.text(), 1)
		x.Del(r.text())
		x.Oldest()
		s := api.State{Some: r.Intn(2) == 0, Start: r.int(), Time: r.small(), Int: r.int(), Re: r.Uint64(), Im: r.Uint64(), Hist: r.hist()}
		todelta.Next(s, p, r.int())
		tocum.Next(s, p, r.int())
		cfg := r.config()
		if c := convert.New(cfg); c != nil {
			for range 5 {
				if q, e := c.Take(r.point()); e == api.OK && point.Check(q) != api.OK {
					t.Fatal("Take")
				}
			}
			if _, e := convert.Load(cfg, c.Save()); e != api.OK {
				t.Fatalf("Load: %d", e)
			}
		}
		convert.Load(cfg, r.bytes())
		segment.Encode(cfg, r.int(), r.points())
		segment.Decode(r.bytes())
		segment.Chunks(r.bytes())
		net.Read(r.bytes())
		n := net.New()
		n.Send(api.Msg{Ack: r.Intn(2) == 0, Have: r.int(), Data: r.bytes()})
		n.Double(r.small())
		n.Turn(r.small(), r.int())
		n.Take(r.small())
		k := sink.New()
		k.Take(r.bytes())
		k.From(r.int())
		k.Series(r.text())
	}
}

// P1: no call of the layers on a disk panics, and each ends.
func TestWildDisk(t *testing.T) {
	r := wild{rand.New(rand.NewSource(3))}
	for range 2000 {
		d := r.disk()
		d.Fail(r.small(), api.Errno(r.small()))
		d.Crash(r.small())
		for range 5 {
			d.Create(r.text())
			d.Append(r.text(), r.bytes())
			d.Cut(r.text(), r.int())
			d.Rename(r.text(), r.text())
			d.Sync(r.text())
			d.Remove(r.text())
		}
		if l, _, e := wal.Open(d, r.text()); e == api.OK {
			l.Append(r.bytes())
			l.Sync()
		}
		snap.Save(d, r.text(), r.bytes())
		snap.Load(d, r.text())
		snap.Cost(r.int())
		if s, e := store.Open(d, r.small(), r.small()); e == api.OK {
			s.Put(r.int(), r.bytes())
			s.Keep(api.Span{First: r.int(), End: r.int()})
			s.Read(r.int())
			s.Below(r.int())
		}
		if s, e := ship.Open(d); e == api.OK {
			s.Take(r.int(), r.int())
			s.Due([]api.Span{{First: r.int(), End: r.int()}}, r.int())
		}
		d.Boot([]int{r.int(), r.int()})
		if a, e := agent.Open(r.config(), d); e == api.OK {
			for range 5 {
				a.Ingest(r.point())
				a.Take(api.Msg{Ack: true, Have: r.int()})
				a.Seal()
				a.Tick()
			}
			if a.Acked() > a.Sealed() || a.Sealed() > a.Next() {
				t.Fatal("Open")
			}
		}
		if w := world.New(r.config()); w != nil {
			for range 20 {
				w.Step(api.Event{Kind: r.Intn(14) - 1, Point: r.point(), N: r.small(), K: r.small(), Code: api.Errno(r.small()), Keep: []int{r.int(), r.int()}})
			}
			w.Look(r.int())
			rounds.Round(w)
			rounds.Settle(w, r.int())
			rounds.Mend(w, []int{r.int()})
			rounds.Settle(w, r.int())
		}
	}
}

// P1: no call of the last layers panics, and each ends.
func TestWildTexts(t *testing.T) {
	r := wild{rand.New(rand.NewSource(4))}
	for range 3000 {
		script.Parse(r.text() + r.text())
		script.Line(api.Event{Kind: r.Intn(14) - 1, Point: r.point(), N: r.int(), Code: api.Errno(r.int()), Keep: []int{r.int()}})
		wire.GetVar(r.bytes(), r.int())
		wire.Decode(r.bytes())
		wire.Encode([]api.Fld{{Num: r.int(), Type: r.Intn(5) - 1, V: uint64(r.int()), B: r.bytes()}})
		wire.Unpacked(r.bytes())
		otlp.Decode(r.bytes())
		otlp.Decode(append([]byte{10, 20}, r.bytes()...))
		otlp.Encode(r.points())
		if g, _, e := glob.Compile(r.text()); e == api.OK {
			g.Match(r.text())
			g.Plain()
		}
		glob.Compile(glob.Quote(r.text()))
		if x, _, e := relabel.Compile([]api.Rule{r.rule(), {Kind: api.Forget, Glob: r.text()}}); e == api.OK {
			x.Apply(r.point())
			x.Stop(r.point())
		}
		relabel.Check(r.rule())
		symtab.Build([]string{r.text(), r.text()})
		if x, e := symtab.Open(r.bytes()); e == api.OK {
			x.At(r.int())
			x.Prefix(r.text())
			x.Find(r.text())
		}
		if x, _, e := index.New([]string{r.text(), "x 111"}); e == api.OK {
			x.Key(r.int())
			x.Having(r.text(), r.text())
			x.Select([]api.Match{{Key: r.text(), Glob: r.text(), Not: true}})
		}
		l := []int{r.int(), r.int(), r.int()}
		index.And(l, l[1:])
		index.Or(l[1:], l)
		index.Less(l, l[:1])
		index.Bytes(l)
		index.Read(r.bytes())
		rollup.Window(r.int(), r.int())
		rollup.Merge(r.point(), r.point())
		rollup.Roll(r.points(), r.int())
		query.Run(r.points(), api.Query{Match: []api.Match{{Glob: r.text()}}, From: r.int(), To: r.int()})
		query.Nth(r.hist(), uint64(r.int()))
		query.Share(r.hist(), uint64(r.int()), uint64(r.int()))
		query.Below(r.hist(), api.Bucket{Side: r.small(), Index: r.int()})
		conf.Parse(r.text() + r.text())
		conf.Line(r.rule())
		conf.Print(r.config(), []api.Rule{r.rule()})
	}
}
