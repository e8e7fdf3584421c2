package world_test

import (
	"math"
	"math/rand"
	"slices"
	"strconv"
	"testing"

	"limnograph/api"
	"limnograph/convert"
	"limnograph/point"
	"limnograph/segment"
	"limnograph/store"
	"limnograph/world"
)

// cfg is a right configuration.
func cfg() api.Config {
	return api.Config{Out: api.Delta, Series: 3, Buckets: 10, Points: 20, Bytes: 4096, Disk: 100000, Window: 2}
}

// sum is the n-th point of a whole sum.
func sum(n int) api.Point {
	return api.Point{Name: "x", Kind: api.IntSum, Temp: api.Cumul, Mono: true, Time: 10*n + 10, Int: n * n}
}

// ev is an event with N.
func ev(kind, n int) api.Event {
	return api.Event{Kind: kind, N: n}
}

// in is the event of a point that comes.
func in(p api.Point) api.Event {
	return api.Event{Kind: api.EvIngest, Point: p}
}

// same tells whether points are the same.
func same(a, b []api.Point) bool {
	return slices.EqualFunc(a, b, point.Same)
}

// P27.1.
func TestNew(t *testing.T) {
	for i, f := range []func(c *api.Config){
		func(c *api.Config) {},
		func(c *api.Config) { c.Disk = 1 },
		func(c *api.Config) { c.Disk = api.MaxDisk },
		func(c *api.Config) { c.Disk = 0 },
		func(c *api.Config) { c.Disk = api.MaxDisk + 1 },
		func(c *api.Config) { c.Window = 0 },
		func(c *api.Config) { c.Bytes = 64 },
		func(c *api.Config) { c.Out = -1 },
	} {
		c := cfg()
		f(&c)
		w := world.New(c)
		if ok := i < 3; world.Good(c) != ok || (w != nil) != ok {
			t.Errorf("%d", i)
		}
		if w != nil && (w.Config() != c || w.Down() || w.Next() != 0 || w.Sealed() != 0 || w.Acked() != 0 || w.Left() != 0 || w.Live() != 0 || w.Used() != 0 || w.Under(true)+w.Under(false) != 0 || len(w.Accepted())+len(w.Delivered()) != 0 || !slices.Equal(w.Files(), []string{"wal-0"})) {
			t.Errorf("%d: it has something", i)
		}
	}
}

// P27.2: each kind of event.
func TestStep(t *testing.T) {
	w := world.New(cfg())
	for i, c := range []struct {
		e    api.Event
		want api.Errno
	}{
		{api.Event{}, api.ErrArg},
		{ev(12, 0), api.ErrArg},
		{ev(-1, 0), api.ErrArg},
		{ev(math.MaxInt, 0), api.ErrArg},
		{in(api.Point{}), api.ErrForm},
		{in(sum(0)), api.OK},
		{in(sum(0)), api.ErrOrder},
		{ev(api.EvSync, 7), api.OK},
		{ev(api.EvSeal, 0), api.OK},
		{ev(api.EvDeliver, 0), api.ErrNone},
		{ev(api.EvDrop, 0), api.ErrNone},
		{ev(api.EvDouble, 0), api.ErrNone},
		{ev(api.EvTurn, 0), api.ErrNone},
		{ev(api.EvTick, 0), api.OK},

		{ev(api.EvDouble, 0), api.OK},
		{api.Event{Kind: api.EvTurn, N: 0, K: 1}, api.OK},
		{api.Event{Kind: api.EvTurn, N: 0, K: 2}, api.ErrNone},
		{ev(api.EvDeliver, 2), api.ErrNone},
		{ev(api.EvDeliver, -1), api.ErrNone},
		{ev(api.EvDeliver, 0), api.OK},
		{ev(api.EvDrop, 0), api.OK},
		{ev(api.EvBoot, 0), api.ErrBusy},
		{ev(api.EvCrash, 0), api.OK},
		{ev(api.EvSync, 0), api.ErrDown},

		{ev(api.EvSync, 0), api.ErrDown},
		{ev(api.EvSeal, 0), api.ErrDown},
		{ev(api.EvTick, 0), api.ErrDown},
		{in(sum(1)), api.ErrDown},
		{ev(api.EvDouble, 0), api.OK},
		{ev(api.EvDeliver, 0), api.ErrDown},
		{ev(api.EvDrop, 0), api.OK},
		{ev(api.EvDeliver, 0), api.ErrNone},
		{ev(api.EvBoot, 0), api.OK},
		{api.Event{Kind: api.EvFail, N: 0, Code: 77}, api.OK},
		{in(sum(1)), 77},
		{api.Event{Kind: api.EvFail, N: 0, Code: api.ErrDown}, api.OK},
		{in(sum(1)), api.OK},

		{api.Event{Kind: api.EvFail, N: 0, Code: 77}, api.OK},
		{api.Event{Kind: api.EvFail, N: 0, Code: api.ErrDown}, api.OK},
		{ev(api.EvSync, 0), 77},
		{ev(api.EvCrash, 0), api.OK},
		{ev(api.EvCrash, -1), api.OK},
		{ev(api.EvSync, 0), api.OK},
	} {
		if e := w.Step(c.e); e != c.want {
			t.Errorf("%d: %d", i, e)
		}
	}
	if w.Next() != 2 || w.Sealed() != 1 || len(w.Delivered()) != 1 || w.Acked() != 0 {
		t.Errorf("%d %d %d", w.Next(), w.Sealed(), len(w.Delivered()))
	}
}

// P27.2, P27.3: the example, and the messages.
func TestDeliver(t *testing.T) {
	w := world.New(cfg())
	l := w.Run(in(sum(1)), in(sum(2)), ev(api.EvSeal, 0), ev(api.EvTick, 0))
	if !slices.Equal(l, []api.Errno{0, 0, 0, 0}) || w.Left() != 1 || w.Under(false) != 1 || w.Under(true) != 0 || w.Live() != 1 {
		t.Fatalf("%v", l)
	}
	m, ok := w.Look(0)
	if _, p, e := segment.Decode(m.Data); !ok || m.Ack || e != api.OK || len(p) != 2 {
		t.Errorf("%v", m)
	}
	w.Step(ev(api.EvDeliver, 0))
	if m, ok := w.Look(0); !ok || !m.Ack || m.Have != 2 || w.Under(true) != 1 || w.Acked() != 0 {
		t.Errorf("%v", m)
	}
	if w.Step(ev(api.EvDeliver, 0)) != api.OK || w.Acked() != 2 || w.Left() != 0 || len(w.Delivered()) != 2 || w.Under(true) != 0 || !slices.Equal(w.Files(), []string{"ack", "meta", "wal-1"}) {
		t.Errorf("%q", w.Files())
	}
	if _, ok := w.Look(0); ok || len(w.Run()) != 0 {
		t.Error("Look")
	}
	d := w.Delivered()
	if d[0].Int != 1 || d[0].Flags != api.First || d[1].Int != 3 || d[1].Start != 20 || d[1].Flags != 0 {
		t.Errorf("%v", d)
	}
}

// P27.2: what a crash leaves.
func TestLost(t *testing.T) {
	w := world.New(cfg())
	w.Run(in(sum(1)), ev(api.EvSync, 0), in(sum(2)), in(sum(3)), ev(api.EvCrash, 0), ev(api.EvSeal, 0))
	if len(w.Accepted()) != 3 || w.Next() != 3 || !w.Down() || w.Used() != 0 || len(w.Files()) != 0 {
		t.Errorf("%d", w.Next())
	}
	if w.Step(api.Event{Kind: api.EvBoot}) != api.OK || len(w.Accepted()) != 1 || w.Next() != 1 || w.Down() {
		t.Errorf("%d", w.Next())
	}
	if l := w.Run(in(sum(2)), ev(api.EvSeal, 0)); !slices.Equal(l, []api.Errno{0, 0}) || len(w.Accepted()) != 2 {
		t.Errorf("%v", l)
	}
	w = world.New(cfg())
	w.Run(in(sum(1)), in(sum(2)), ev(api.EvCrash, 0), ev(api.EvSync, 0))
	if w.Step(api.Event{Kind: api.EvBoot, Keep: []int{999}}) != api.OK || len(w.Accepted()) != 2 {
		t.Errorf("%d", w.Next())
	}
}

// P27.2: what is delivered to an agent without power, though it says nothing new.
func TestStale(t *testing.T) {
	w := world.New(cfg())
	w.Run(in(sum(1)), ev(api.EvSeal, 0), ev(api.EvTick, 0), ev(api.EvDeliver, 0), ev(api.EvDouble, 0), ev(api.EvDouble, 0))
	if w.Step(ev(api.EvDeliver, 0)) != api.OK || w.Step(ev(api.EvDeliver, 0)) != api.OK || w.Acked() != 1 {
		t.Error("with the power there")
	}
	w.Run(ev(api.EvCrash, 0), ev(api.EvSync, 0))
	if e := w.Step(ev(api.EvDeliver, 0)); e != api.ErrDown || w.Under(true) != 0 {
		t.Errorf("%d", e)
	}
}

// P27.2: a full net.
func TestFullNet(t *testing.T) {
	w := world.New(cfg())
	w.Run(in(sum(1)), ev(api.EvSeal, 0), ev(api.EvTick, 0))
	for range api.MaxNet - 1 {
		w.Step(ev(api.EvDouble, 0))
	}
	if e := w.Step(ev(api.EvDouble, 0)); e != api.ErrFull || w.Step(ev(api.EvDouble, api.MaxNet)) != api.ErrNone || w.Step(ev(api.EvTick, 0)) != api.OK || w.Under(false) != api.MaxNet {
		t.Errorf("%d", e)
	}
}

// checker holds a world against the document.
type checker struct {
	t      *testing.T
	w      *world.World
	acked  int
	kept   int // how many points were accepted ahead of a Sync or Seal that answered OK
	told   api.Errno
	sealed int
	spans  []api.Span // of all segments that were sealed
}

// verdict is what the converter says of a point behind the accepted ones.
func (c *checker) verdict(p api.Point) ([]api.Point, api.Errno) {
	conv := convert.New(c.w.Config())
	var l []api.Point
	for _, p := range c.w.Accepted() {
		q, e := conv.Take(p)
		if e != api.OK {
			c.t.Fatalf("an accepted point is refused: %d", e)
		}
		l = append(l, q)
	}
	_, e := conv.Take(p)
	return l, e
}

// step does an event, and looks at the world.
func (c *checker) step(e api.Event) {
	w, t := c.w, c.t
	_, verdict := c.verdict(e.Point)
	was, next := len(w.Accepted()), w.Next()
	answer := w.Step(e)
	switch e.Kind {
	case api.EvIngest:
		alike := answer == verdict
		if !alike && answer != api.ErrSpace && answer != api.ErrDown && answer != c.told || (answer == api.OK) != (len(w.Accepted()) == was+1) || answer != api.OK && w.Next() != next {
			t.Fatalf("Ingest: %d, not %d", answer, verdict)
		}
	case api.EvSync, api.EvSeal:
		if answer == api.OK {
			c.kept = len(w.Accepted())
		}
	case api.EvFail:
		if e.Code != api.ErrDown {
			c.told = e.Code
		}
	case api.EvBoot:
		if answer != api.OK && answer != api.ErrBusy {
			t.Fatalf("Boot: %d", answer)
		}
	}
	c.look()
}

// look holds the world against the whole.
func (c *checker) look() {
	w, t := c.w, c.t
	all, _ := c.verdict(api.Point{})
	got := w.Delivered()
	if len(got) > len(all) || !same(got, all[:len(got)]) {
		t.Fatalf("delivered are %v, made %v", got, all)
	}
	if len(all) < c.kept || len(all) != w.Next() || w.Sealed() > w.Next() || w.Acked() > len(got) || w.Acked() < c.acked || w.Acked() > w.Sealed() {
		t.Fatalf("%d of %d are left, %d delivered, %d sealed, %d acked of %d", len(all), c.kept, len(got), w.Sealed(), w.Acked(), c.acked)
	}
	c.acked = w.Acked()
	if w.Sealed() > c.sealed {
		c.spans = append(c.spans, api.Span{First: c.sealed, End: w.Sealed()})
		c.sealed = w.Sealed()
	}
	if w.Used() > w.Config().Disk || w.Live() > w.Config().Series || len(w.Files()) > api.MaxFiles {
		t.Fatalf("%d bytes, %d series", w.Used(), w.Live())
	}
	for _, p := range all {
		if len(p.Hist.Pos.Counts) > w.Config().Buckets || len(p.Hist.Neg.Counts) > w.Config().Buckets {
			t.Fatalf("%v", p)
		}
	}
	if w.Down() {
		return
	}
	for _, x := range c.spans {
		if x.End > w.Acked() && !slices.Contains(w.Files(), store.Name(x.First)) {
			t.Fatalf("the file of %v is gone, acked are %d", x, w.Acked())
		}
	}
}

// some is a point of some series, mostly behind the last one.
func some(rnd *rand.Rand, time int) api.Point {
	k := rnd.Intn(6)
	p := api.Point{Name: "s" + strconv.Itoa(k), Kind: 1 + k%5, Temp: 1 + k%2, Start: max(0, time-1-rnd.Intn(2)), Time: time + rnd.Intn(3)}
	switch p.Kind {
	case api.IntSum:
		p.Int, p.Mono = time+rnd.Intn(3), rnd.Intn(9) > 0
	case api.FloatSum:
		p.Re = math.Float64bits(float64(rnd.Intn(100)) / 3)
	case api.Gauge:
		p.Temp, p.Start, p.Re = 0, p.Time, rnd.Uint64()
	case api.Phasor:
		p.Re, p.Im = math.Float64bits(float64(rnd.Intn(100))), rnd.Uint64()
	case api.Histo:
		p.Hist = api.Hist{
			Scale: rnd.Intn(3),
			Zero:  uint64(rnd.Intn(3)),
			Pos:   api.Side{Offset: rnd.Intn(5), Counts: []uint64{uint64(1 + time), uint64(rnd.Intn(3)), uint64(1 + time)}},
		}
	}
	if p.Temp == api.Cumul && rnd.Intn(9) > 0 {
		p.Start = 0
	}
	return p
}

// someEvent is an event of some kind.
func someEvent(rnd *rand.Rand, time int) api.Event {
	kinds := []int{1, 1, 1, 1, 1, 1, 2, 3, 4, 4, 5, 5, 5, 5, 5, 5, 6, 7, 8, 9, 10, 11, 11, 11}
	e := api.Event{Kind: kinds[rnd.Intn(len(kinds))], N: rnd.Intn(4), K: rnd.Intn(4)}
	switch e.Kind {
	case api.EvIngest:
		e.Point = some(rnd, time)
	case api.EvFail:
		e.Code = api.Errno(1 + rnd.Intn(20))
		e.N = rnd.Intn(12)
	case api.EvCrash:
		e.N = rnd.Intn(25)
	case api.EvBoot:
		for range rnd.Intn(5) {
			e.Keep = append(e.Keep, rnd.Intn(200)-20)
		}
	}
	return e
}

// P27.4: the whole, at each point of some scripts.
func TestWhole(t *testing.T) {
	rnd := rand.New(rand.NewSource(1))
	delivered, acked, boots := 0, 0, 0
	for range 400 {
		x := api.Config{
			Out:     rnd.Intn(3),
			Series:  2 + rnd.Intn(5),
			Buckets: 3 + rnd.Intn(20),
			Points:  1 + rnd.Intn(20),
			Bytes:   4096,
			Disk:    200 + rnd.Intn(2000),
			Window:  1 + rnd.Intn(4),
		}
		c := &checker{t: t, w: world.New(x)}
		for i := range 80 {
			e := someEvent(rnd, 3*i+1)
			if e.Kind == api.EvBoot && c.w.Down() {
				boots++
			}
			c.step(e)
		}
		delivered += len(c.w.Delivered())
		acked += c.w.Acked()
	}
	if delivered < 1000 || acked < 500 || boots < 100 {
		t.Errorf("%d delivered, %d acked, %d boots", delivered, acked, boots)
	}
}

// P27.4: the same script has the same answers.
func TestAgain(t *testing.T) {
	for seed := range 20 {
		var worlds [2]*world.World
		var answers [2][]api.Errno
		for k := range 2 {
			rnd := rand.New(rand.NewSource(int64(seed)))
			w := world.New(cfg())
			for i := range 100 {
				answers[k] = append(answers[k], w.Step(someEvent(rnd, 3*i+1)))
			}
			worlds[k] = w
		}
		a, b := worlds[0], worlds[1]
		if !slices.Equal(answers[0], answers[1]) || !same(a.Delivered(), b.Delivered()) || a.Used() != b.Used() || !slices.Equal(a.Files(), b.Files()) {
			t.Fatalf("%d", seed)
		}
	}
}

// P27.5.
func TestMemory(t *testing.T) {
	w := world.New(cfg())
	p := sum(1)
	p.Attrs = []api.Pair{{Key: "k", Val: "v"}}
	w.Run(in(p), ev(api.EvSeal, 0), ev(api.EvTick, 0))
	p.Attrs[0].Key = "z"
	m, _ := w.Look(0)
	m.Data[0] = 99
	w.Accepted()[0].Attrs[0].Key = "y"
	w.Files()[0] = "x"
	w.Step(ev(api.EvDeliver, 0))
	if len(w.Delivered()) != 1 {
		t.Fatal("Look isn't new")
	}
	w.Delivered()[0].Attrs[0].Key = "y"
	if w.Accepted()[0].Attrs[0].Key != "k" || w.Delivered()[0].Attrs[0].Key != "k" || w.Files()[0] == "x" {
		t.Error("memory is shared")
	}
}
