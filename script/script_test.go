package script_test

import (
	"math"
	"math/rand"
	"slices"
	"strings"
	"testing"

	"limnograph/api"
	"limnograph/point"
	"limnograph/script"
)

// in is the event of a point.
func in(p api.Point) api.Event {
	return api.Event{Kind: api.EvIngest, Point: p}
}

// all are events of all kinds, and their lines.
func all() ([]api.Event, []string) {
	ab := []api.Pair{{Key: "b", Val: "2"}, {Key: "a", Val: "1"}}
	return []api.Event{
		in(api.Point{Name: "cpu", Attrs: ab, Kind: api.IntSum, Temp: api.Delta, Mono: true, Time: 10, Int: 5}),

		in(api.Point{Name: "x", Kind: api.IntSum, Temp: api.Cumul, Start: 3, Time: 10, Int: math.MinInt}),

		in(api.Point{Name: "x", Kind: api.FloatSum, Temp: api.Cumul, Time: 10, Re: 0xfedcba9876543210}),

		in(api.Point{Name: "x", Kind: api.Gauge, Start: 10, Time: 10, Re: 0xa}),

		in(api.Point{Name: "x", Kind: api.Phasor, Temp: api.Delta, Time: 10, Re: 1, Im: 2}),

		in(api.Point{
			Name: "x",
			Kind: api.Histo,
			Temp: api.Delta,
			Time: 10,
			Hist: api.Hist{Scale: -3, Zero: math.MaxUint64 - 9, Pos: api.Side{Offset: -5, Counts: []uint64{1, 0, 3}}, Neg: api.Side{Counts: []uint64{4}}},
		}),

		in(api.Point{Name: "x", Kind: api.Histo, Temp: api.Delta, Time: 10}),

		{Kind: api.EvSync},
		{Kind: api.EvSeal},
		{Kind: api.EvTick},
		{Kind: api.EvDeliver, N: 3},
		{Kind: api.EvDrop},
		{Kind: api.EvDouble, N: -1},
		{Kind: api.EvTurn, N: 1, K: 2},
		{Kind: api.EvFail, N: -1, Code: -7},
		{Kind: api.EvCrash, N: math.MaxInt},
		{Kind: api.EvBoot},
		{Kind: api.EvBoot, Keep: []int{3, -1}},
	}, []string{
		"point cpu;a=1;b=2 int delta mono 0 10 5",
		"point x int cumul any 3 10 -9223372036854775808",
		"point x float cumul any 0 10 fedcba9876543210",
		"point x gauge asis any 10 10 000000000000000a",
		"point x phasor delta any 0 10 0000000000000001 0000000000000002",

		"point x hist delta any 0 10 -3 18446744073709551606 -5:1,0,3 0:4",
		"point x hist delta any 0 10 0 0 - -",
		"sync",
		"seal",
		"tick",
		"deliver 3",
		"drop 0",
		"double -1",
		"turn 1 2",
		"fail -1 -7",
		"crash 9223372036854775807",
		"boot",
		"boot 3 -1",
	}
}

// same tells whether two events are the same.
func same(a, b api.Event) bool {
	return a.Kind == b.Kind && point.Same(a.Point, b.Point) && a.N == b.N && a.K == b.K && a.Code == b.Code && slices.Equal(a.Keep, b.Keep)
}

// P29.1: Line.
func TestLine(t *testing.T) {
	events, lines := all()
	for i, e := range events {
		if s, f := script.Line(e); s != lines[i] || f != api.OK {
			t.Errorf("%d: %q %d", i, s, f)
		}
	}
	right := events[0].Point
	flagged := point.Clone(right)
	flagged.Flags = 1
	for i, c := range []struct {
		e api.Event
		f api.Errno
	}{
		{api.Event{}, api.ErrKind},
		{api.Event{Kind: 12}, api.ErrKind},
		{api.Event{Kind: -1}, api.ErrKind},
		{in(api.Point{}), api.ErrForm},
		{in(api.Point{Name: "x"}), api.ErrKind},
		{in(flagged), api.ErrForm},
		{api.Event{Kind: api.EvIngest, Point: right, N: 1}, api.ErrForm},
		{api.Event{Kind: api.EvIngest, Point: right, Keep: []int{1}}, api.ErrForm},
		{api.Event{Kind: api.EvIngest, Point: right, Keep: []int{}}, api.OK},
		{api.Event{Kind: api.EvIngest, Point: api.Point{Name: "x"}, N: 1}, api.ErrKind},

		{api.Event{Kind: api.EvSync, N: 1}, api.ErrForm},
		{api.Event{Kind: api.EvSeal, K: 1}, api.ErrForm},
		{api.Event{Kind: api.EvTick, Code: 1}, api.ErrForm},
		{api.Event{Kind: api.EvDeliver, K: 1}, api.ErrForm},
		{api.Event{Kind: api.EvDrop, Point: api.Point{Time: 1}}, api.ErrForm},
		{api.Event{Kind: api.EvDouble, Code: 1}, api.ErrForm},
		{api.Event{Kind: api.EvCrash, K: 1}, api.ErrForm},
		{api.Event{Kind: api.EvTurn, Code: 1}, api.ErrForm},

		{api.Event{Kind: api.EvFail, K: 1}, api.ErrForm},
		{api.Event{Kind: api.EvBoot, N: 1}, api.ErrForm},
		{api.Event{Kind: api.EvBoot, Point: api.Point{Attrs: []api.Pair{}}}, api.OK},
	} {
		if s, f := script.Line(c.e); f != c.f || (s != "") != (f == api.OK) {
			t.Errorf("%d: %q %d", i, s, f)
		}
	}
}

// P29.1: Print.
func TestPrint(t *testing.T) {
	events, lines := all()
	if s, f := script.Print(events); s != strings.Join(lines, "\n")+"\n" || f != api.OK {
		t.Errorf("%q %d", s, f)
	}
	if s, f := script.Print(nil); s != "" || f != api.OK {
		t.Errorf("%q %d", s, f)
	}
	many := make([]api.Event, api.MaxLines+1)
	if s, f := script.Print(many); s != "" || f != api.ErrLarge {
		t.Errorf("%d", f)
	}
	for i := range many {
		many[i].Kind = api.EvSync
	}
	if s, f := script.Print(many[1:]); len(s) != 5000 || f != api.OK {
		t.Errorf("%d", f)
	}
	if l, _, f := script.Parse(strings.Repeat("sync\n", api.MaxLines)); len(l) != api.MaxLines || f != api.OK {
		t.Errorf("%d", f)
	}
	many[7].N, many[9].Kind = 1, 0
	if s, f := script.Print(many[1:]); s != "" || f != api.ErrForm {
		t.Errorf("%d", f)
	}
}

// P29.2.
func TestParse(t *testing.T) {
	for i, c := range []struct {
		s    string
		n    int
		line int
		e    api.Errno
	}{
		{"", 0, 0, api.OK},
		{"\n", 0, 0, api.OK},
		{"# any\n\nsync\n", 1, 0, api.OK},
		{"sync", 0, 0, api.ErrShort},
		{"sync\nx", 0, 1, api.ErrShort},
		{"#", 0, 0, api.ErrShort},
		{"x\nsync", 0, 0, api.ErrLine},
		{strings.Repeat("\n", 1000), 0, 0, api.OK},
		{strings.Repeat("\n", 1000) + "x", 0, 1000, api.ErrLarge},
		{strings.Repeat("x\n", 1001), 0, 1000, api.ErrLarge},
		{strings.Repeat("\n", 999) + "x", 0, 999, api.ErrShort},

		{"\n\n \n", 0, 2, api.ErrLine},
		{"sync \n", 0, 0, api.ErrLine},
		{" sync\n", 0, 0, api.ErrLine},
		{"sync 1\n", 0, 0, api.ErrLine},
		{"Sync\n", 0, 0, api.ErrLine},
		{"sync\r\n", 0, 0, api.ErrLine},
		{" #\n", 0, 0, api.ErrLine},
		{"deliver\n", 0, 0, api.ErrLine},
		{"deliver 00\n", 0, 0, api.ErrLine},
		{"deliver 0\n", 1, 0, api.OK},
		{"deliver -0\n", 0, 0, api.ErrLine},
		{"deliver +1\n", 0, 0, api.ErrLine},
		{"deliver 01\n", 0, 0, api.ErrLine},
		{"deliver -01\n", 0, 0, api.ErrLine},
		{"deliver 1_0\n", 0, 0, api.ErrLine},

		{"deliver -9223372036854775808\n", 1, 0, api.OK},
		{"deliver -9223372036854775809\n", 0, 0, api.ErrLine},
		{"deliver 9223372036854775808\n", 0, 0, api.ErrLine},
		{"deliver 0x1\n", 0, 0, api.ErrLine},
		{"deliver  1\n", 0, 0, api.ErrLine},
		{"deliver 1 2\n", 0, 0, api.ErrLine},
		{"turn 1\n", 0, 0, api.ErrLine},
		{"turn 1 2 3\n", 0, 0, api.ErrLine},
		{"fail 1\n", 0, 0, api.ErrLine},
		{"boot \n", 0, 0, api.ErrLine},
		{"boot 1 \n", 0, 0, api.ErrLine},
		{"boot 1 x\n", 0, 0, api.ErrLine},
		{"boot 1\tx\n", 0, 0, api.ErrLine},

		{"point\n", 0, 0, api.ErrLine},
		{"point x\n", 0, 0, api.ErrLine},
		{"point x int delta any 0 10 5\n", 1, 0, api.OK},
		{"point X int delta any 0 10 5\n", 0, 0, api.ErrForm},
		{"point x;b=1;a=1 int delta any 0 10 5\n", 0, 0, api.ErrOrder},
		{"point x;a=1;a=1 int delta any 0 10 5\n", 0, 0, api.ErrThere},
		{"point X int delta any 0 10 05\n", 0, 0, api.ErrLine},
		{"point  x int delta any 0 10 5\n", 0, 0, api.ErrLine},
		{"point \n", 0, 0, api.ErrLine},
		{"point x int asis any 0 10 5\n", 0, 0, api.ErrKind},
		{"point X int asis any 0 10 5\n", 0, 0, api.ErrForm},

		{"point x gauge asis mono 1 1 0000000000000000\n", 0, 0, api.ErrArg},
		{"point x int delta maybe 0 10 5\n", 0, 0, api.ErrLine},
		{"point x int delta any 0 10\n", 0, 0, api.ErrLine},
		{"point x int delta any 0 10 5 6\n", 0, 0, api.ErrLine},
		{"point x int delta any 10 10 5\n", 0, 0, api.ErrArg},
		{"point x whole delta any 0 10 5\n", 0, 0, api.ErrLine},
		{"point x int each any 0 10 5\n", 0, 0, api.ErrLine},

		{"point x float delta any 0 10 5\n", 0, 0, api.ErrLine},
		{"point x float delta any 0 10 000000000000000A\n", 0, 0, api.ErrLine},
		{"point x float delta any 0 10 000000000000000g\n", 0, 0, api.ErrLine},
		{"point x float delta any 0 10 00000000000000000\n", 0, 0, api.ErrLine},
		{"point x float delta any 0 10 +00000000000000a\n", 0, 0, api.ErrLine},
		{"point x float delta mono 0 10 7ff0000000000000\n", 0, 0, api.ErrFinite},
		{"point x phasor delta any 0 10 0000000000000001\n", 0, 0, api.ErrLine},

		{"point x hist delta any 0 10 0 0 -\n", 0, 0, api.ErrLine},
		{"point x hist delta any 0 10 0 -1 - -\n", 0, 0, api.ErrLine},
		{"point x hist delta any 0 10 0 00 - -\n", 0, 0, api.ErrLine},
		{"point x hist delta any 0 10 0 18446744073709551616 - -\n", 0, 0, api.ErrLine},
		{"point x hist delta any 0 10 99 0 - -\n", 0, 0, api.ErrArg},
		{"point x hist delta any 0 10 0 0 5: -\n", 0, 0, api.ErrLine},
		{"point x hist delta any 0 10 0 0 5 -\n", 0, 0, api.ErrLine},
		{"point x hist delta any 0 10 0 0 :5 -\n", 0, 0, api.ErrLine},
		{"point x hist delta any 0 10 0 0 5:1, -\n", 0, 0, api.ErrLine},
		{"point x hist delta any 0 10 0 0 5:-1 -\n", 0, 0, api.ErrLine},
		{"point x hist delta any 0 10 0 0 05:1 -\n", 0, 0, api.ErrLine},
		{"point x hist delta any 0 10 0 0 5:0 -\n", 0, 0, api.ErrForm},
		{"point x hist delta any 0 10 0 0 5:1:1 -\n", 0, 0, api.ErrLine},
	} {
		l, line, e := script.Parse(c.s)
		if len(l) != c.n || line != c.line || e != c.e {
			t.Errorf("%d, %q: %d at %d", i, c.s, e, line)
		}
	}
}

// P29.3.
func TestRoundTrip(t *testing.T) {
	events, lines := all()
	s, _ := script.Print(events)
	l, _, e := script.Parse("# all\n\n" + s)
	if e != api.OK || !slices.EqualFunc(l, events, same) || l[0].Point.Attrs[0].Key != "a" {
		t.Errorf("%v %d", l, e)
	}
	for i, e := range l {
		if s, _ := script.Line(e); s != lines[i] {
			t.Errorf("%q, not %q", s, lines[i])
		}
	}
	rnd := rand.New(rand.NewSource(1))
	taken := 0
	for range 30000 {
		b := []byte(lines[rnd.Intn(len(lines))])
		for range 1 + rnd.Intn(2) {
			b[rnd.Intn(len(b))] = " 0123456789-:,;=abxy#"[rnd.Intn(21)]
		}
		l, _, e := script.Parse(string(b) + "\n")
		if e != api.OK || len(l) == 0 {
			continue
		}
		taken++
		if s, e := script.Line(l[0]); e != api.OK || s != string(b) {
			t.Fatalf("%q: %q %d", b, s, e)
		}
	}
	if taken < 500 {
		t.Errorf("%d", taken)
	}
	events[0].Point.Attrs[0].Key = "z"
	if l[0].Point.Attrs[1].Key != "b" {
		t.Error("memory is shared")
	}
}
