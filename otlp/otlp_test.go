package otlp_test

import (
	"bytes"
	"math"
	"math/rand"
	"slices"
	"testing"

	"limnograph/api"
	"limnograph/otlp"
	"limnograph/point"
	"limnograph/wire"
)

// sum is a right point.
func sum() api.Point {
	return api.Point{Name: "x", Attrs: []api.Pair{{Key: "b", Val: "2"}, {Key: "a", Val: "1"}}, Kind: api.IntSum, Temp: api.Cumul, Mono: true, Time: 10, Int: 5}
}

// some are right points of all kinds.
func some() []api.Point {
	return []api.Point{
		sum(),

		{Name: "s", Kind: api.IntSum, Temp: api.Delta, Start: 3, Time: 10, Int: math.MinInt},

		{Name: "f", Kind: api.FloatSum, Temp: api.Delta, Start: 5, Time: 10, Re: 0xc000000000000000},

		{Name: "g", Kind: api.Gauge, Start: 10, Time: 10, Re: 7},

		{Name: "p", Attrs: []api.Pair{{Key: "a", Val: "1"}}, Kind: api.Phasor, Temp: api.Delta, Time: 10, Re: 7, Im: 8},

		{
			Name: "h",
			Kind: api.Histo,
			Temp: api.Cumul,
			Time: 10,
			Hist: api.Hist{Scale: -2, Zero: 3, Pos: api.Side{Offset: -5, Counts: []uint64{1, 0, math.MaxUint32}}, Neg: api.Side{Offset: 9, Counts: []uint64{4}}},
		},

		{Name: "h", Kind: api.Histo, Temp: api.Delta, Time: 10},
	}
}

// message is the bytes of a message of fields.
func message(l ...api.Fld) []byte {
	b, e := wire.Encode(l)
	if e != api.OK {
		panic(e)
	}
	return b
}

// num, fix and txt are fields.
func num(n int, v uint64) api.Fld {
	return api.Fld{Num: n, V: v}
}

func fix(n int, v uint64) api.Fld {
	return api.Fld{Num: n, Type: 1, V: v}
}

func txt(n int, b []byte) api.Fld {
	return api.Fld{Num: n, Type: 2, B: b}
}

// attr is the field of an attribute.
func attr(num int, key, val string) api.Fld {
	return txt(num, message(txt(1, []byte(key)), txt(2, []byte(val))))
}

// request is the request of a group with fields.
func request(l ...api.Fld) []byte {
	return message(txt(1, message(l...)))
}

// metric is the field of a metric "m" with data in a field.
func metric(num int, data ...api.Fld) api.Fld {
	return txt(2, message(txt(1, []byte("m")), txt(num, message(data...))))
}

// one is the request of one point with fields, in a metric's data.
func one(num int, l ...api.Fld) []byte {
	data := []api.Fld{txt(1, message(append([]api.Fld{fix(3, 10)}, l...)...))}
	if num == 5 {
		data = []api.Fld{txt(1, message(append([]api.Fld{fix(2, 10), fix(3, 10)}, l...)...))}
	} else {
		data = append(data, num2(1))
	}
	return request(metric(num, data...))
}

// num2 is a data's field that tells the temporality.
func num2(v uint64) api.Fld {
	return num(2, v)
}

// P31.1.
func TestEncode(t *testing.T) {
	b, e := otlp.Encode([]api.Point{sum()})
	p := message(fix(2, 0), fix(3, 10), fix(6, 5), attr(7, "a", "1"), attr(7, "b", "2"))
	want := request(txt(2, message(txt(1, []byte("x")), txt(7, message(txt(1, p), num(2, 2), num(3, 1))))))
	if e != api.OK || !bytes.Equal(b, want) {
		t.Errorf("%x, not %x", b, want)
	}
	l := some()
	b, e = otlp.Encode(l[1:])
	field := func(name string, num int, p []byte, more ...api.Fld) api.Fld {
		return txt(2, message(txt(1, []byte(name)), txt(num, message(append([]api.Fld{txt(1, p)}, more...)...))))
	}
	h := message(fix(2, 0), fix(3, 10), num(8, 3), num(9, 3), txt(10, message(num(1, 9), txt(2, []byte{1, 0, 255, 255, 255, 255, 15}))), txt(11, message(num(1, 18), txt(2, []byte{4}))))
	want = request(field("s", 7, message(fix(2, 3), fix(3, 10), fix(6, 1<<63)), num(2, 1)), field("f", 7, message(fix(2, 5), fix(3, 10), fix(4, 0xc000000000000000)), num(2, 1)), field("g", 5, message(fix(2, 10), fix(3, 10), fix(4, 7))),
		field("p", 30, message(fix(2, 0), fix(3, 10), fix(4, 7), attr(7, "a", "1"), fix(31, 8)), num(2, 1)), field("h", 10, h, num(2, 2)), field("h", 10, message(fix(2, 0), fix(3, 10), num(8, 0), num(9, 0)), num(2, 1)))
	if e != api.OK || !bytes.Equal(b, want) {
		t.Errorf("%x, not %x", b, want)
	}
	flagged := sum()
	flagged.Flags = 1
	for i, c := range []struct {
		l []api.Point
		e api.Errno
	}{{nil, api.OK}, {[]api.Point{sum(), flagged, {}}, api.ErrForm}, {[]api.Point{sum(), {Name: "x"}, flagged}, api.ErrKind}} {
		if b, e := otlp.Encode(c.l); e != c.e || b != nil {
			t.Errorf("%d: %d", i, e)
		}
	}
}

// P31.2: what is taken.
func TestTaken(t *testing.T) {
	p := func(time uint64) api.Fld {
		return txt(1, message(fix(2, 1), fix(3, time), fix(6, 5), attr(7, "a", "1")))
	}
	b := request(metric(7, p(2), num(2, 2), num(2, 1), p(3)), attr(1, "z", "9"), num(77, 5), metric(7, txt(1, message(fix(3, 4), fix(4, 7), fix(3, 6)))), metric(5))
	if l, e := otlp.Decode(b); l != nil || e != api.ErrKind {
		t.Errorf("a sum as it is: %v %d", l, e)
	}
	b = request(metric(7, p(2), num(2, 2), num(2, 1), p(3)), attr(1, "z", "9"), num(77, 5), metric(7, num(2, 2), num(3, 1), txt(1, message(fix(3, 4), fix(4, 7), fix(3, 6)))), metric(5))
	l, e := otlp.Decode(append(b, request(metric(5, txt(1, nil)))...))
	za := []api.Pair{{Key: "a", Val: "1"}, {Key: "z", Val: "9"}}
	want := []api.Point{
		{Name: "m", Attrs: za, Kind: 1, Temp: 2, Start: 1, Time: 2, Int: 5},
		{Name: "m", Attrs: za, Kind: 1, Temp: 2, Start: 1, Time: 3, Int: 5},
		{Name: "m", Attrs: za[1:], Kind: 2, Temp: 1, Mono: true, Time: 6, Re: 7},
		{Name: "m", Kind: 3},
	}
	if e != api.OK || !slices.EqualFunc(l, want, point.Same) || l[0].Attrs[0].Key != "a" {
		t.Errorf("%v %d", l, e)
	}
	for i, b := range [][]byte{nil, {10, 0}, message(num(2, 5)), request(attr(1, "A", ""))} {
		if l, e := otlp.Decode(b); len(l) != 0 || e != api.OK {
			t.Errorf("%d: %v %d", i, l, e)
		}
	}
}

// P31.2: the errors.
func TestErrors(t *testing.T) {
	bad := []byte{0x80}
	side := func(offset uint64, counts ...byte) []byte { return message(num(1, offset), txt(2, counts)) }
	const far = 1 << 41
	for i, c := range []struct {
		b []byte
		e api.Errno
	}{
		{bad, api.ErrShort},
		{[]byte{13}, api.ErrKind},
		{[]byte{0, 0}, api.ErrArg},
		{message(num(1, 5)), api.ErrKind},
		{append(message(num(1, 5)), 0x80), api.ErrShort},
		{message(txt(1, bad)), api.ErrShort},
		{request(num(1, 5)), api.ErrKind},
		{request(num(2, 5)), api.ErrKind},
		{request(txt(2, bad), txt(1, []byte{0, 0})), api.ErrArg},
		{request(txt(1, bad), num(2, 5)), api.ErrKind},

		{request(txt(1, message(num(1, 5)))), api.ErrKind},
		{request(txt(1, message(fix(2, 5)))), api.ErrKind},
		{request(txt(2, nil)), api.ErrForm},
		{request(txt(2, message(num(1, 5)))), api.ErrKind},
		{request(txt(2, message(num(10, 5), num(5, 7)))), api.ErrKind},
		{request(txt(2, message(txt(5, nil), txt(7, nil)))), api.ErrForm},
		{request(txt(2, message(txt(5, nil), txt(5, nil)))), api.ErrForm},
		{request(txt(2, message(txt(6, nil)))), api.ErrForm},
		{request(txt(2, message(txt(30, nil)))), api.OK},

		{request(metric(7, num(1, 5))), api.ErrKind},
		{request(metric(7, fix(2, 5))), api.ErrKind},
		{request(metric(7, txt(3, nil))), api.ErrKind},
		{request(metric(7, num(2, 3))), api.ErrForm},
		{request(metric(7, num(2, 2), num(3, 2))), api.ErrForm},
		{request(metric(7, num(2, 3), num(2, 2))), api.OK},
		{request(metric(7, txt(1, bad), num(3, 2))), api.ErrForm},
		{request(metric(7, txt(1, bad))), api.ErrShort},

		{one(7, num(2, 5), fix(6, 1)), api.ErrKind},
		{one(7, num(4, 5)), api.ErrKind},
		{one(7, num(31, 5)), api.ErrKind},
		{one(7, fix(8, 5)), api.ErrKind},
		{one(7, fix(10, 5)), api.ErrKind},
		{one(7, fix(7, 5)), api.ErrKind},
		{one(7, num(3, 5)), api.ErrKind},
		{one(7, num(6, 5)), api.ErrKind},

		{one(7), api.ErrForm},
		{one(7, fix(4, 1), fix(6, 1)), api.ErrForm},
		{one(7, fix(4, 1), fix(4, 1)), api.ErrForm},
		{one(7, fix(6, 1), fix(6, 1)), api.ErrForm},
		{one(7, fix(6, 1)), api.OK},
		{one(7, fix(4, 1)), api.OK},
		{one(7, fix(6, 1), fix(31, 1)), api.ErrForm},
		{one(7, fix(6, 1), num(8, 1)), api.ErrForm},
		{one(7, fix(6, 1), num(9, 1)), api.ErrForm},
		{one(7, fix(6, 1), txt(10, nil)), api.ErrForm},
		{one(7, fix(6, 1), txt(11, nil)), api.ErrForm},

		{one(5), api.OK},
		{one(5, fix(4, 1), fix(4, 2)), api.OK},
		{one(5, fix(6, 1)), api.ErrForm},
		{one(5, fix(6, 0)), api.ErrForm},
		{one(5, fix(31, 0)), api.ErrForm},
		{one(7, fix(6, 1), fix(31, 0)), api.ErrForm},
		{one(7, fix(6, 1), num(8, 0)), api.ErrForm},
		{one(7, fix(6, 1), num(9, 0)), api.ErrForm},
		{one(30, txt(11, nil)), api.ErrForm},
		{one(30, num(8, 0)), api.ErrForm},
		{one(10, fix(4, 0)), api.ErrForm},
		{one(10, fix(6, 0)), api.ErrForm},
		{one(10, fix(31, 0)), api.ErrForm},
		{one(5, fix(31, 1)), api.ErrForm},
		{one(5, num(8, 1)), api.ErrForm},
		{one(30), api.OK},
		{one(30, fix(31, 1), fix(31, 2)), api.OK},
		{one(30, fix(6, 1)), api.ErrForm},
		{one(30, num(9, 1)), api.ErrForm},
		{one(10), api.OK},
		{one(10, fix(4, 1)), api.ErrForm},
		{one(10, fix(6, 1)), api.ErrForm},
		{one(10, fix(31, 1)), api.ErrForm},

		{one(7, fix(6, 1), fix(3, 1<<53+1)), api.ErrLarge},
		{one(7, fix(6, 1), fix(2, 1<<53+1)), api.ErrLarge},
		{one(7, fix(6, 1), fix(3, 1<<53)), api.ErrArg},
		{one(7, fix(6, 1), fix(2, 1<<53)), api.ErrArg},
		{one(7, fix(6, 1), fix(2, math.MaxUint64)), api.ErrLarge},
		{one(7, fix(6, 1), fix(2, 1<<54), txt(7, bad)), api.ErrLarge},
		{one(7, fix(2, 1<<54)), api.ErrForm},
		{one(7, fix(6, 1), txt(7, bad)), api.ErrShort},
		{one(7, fix(6, 1), attr(7, "A", "1")), api.ErrForm},
		{one(7, fix(6, 1), attr(7, "a", "1"), attr(7, "a", "2")), api.ErrThere},

		{one(7, fix(6, 1), attr(7, "a", "1"), attr(7, "b", "2"), attr(7, "c", "1"), attr(7, "d", "1"), attr(7, "e", "1")), api.ErrLarge},
		{one(10, txt(10, bad)), api.ErrShort},
		{one(10, txt(10, message(fix(1, 1)))), api.ErrKind},
		{one(10, txt(11, message(num(2, 1)))), api.ErrKind},
		{one(10, txt(10, side(0, 0x80, 0))), api.ErrForm},
		{one(10, txt(11, side(0, 0x80))), api.ErrShort},
		{one(10, txt(10, side(far-2, 1))), api.ErrArg},
		{one(10, txt(10, side(far, 1))), api.ErrArg},
		{one(10, txt(10, side(far+2, 1))), api.ErrLarge},
		{one(10, txt(10, side(far+1, 1))), api.ErrLarge},
		{one(10, txt(11, side(far-1, 1))), api.ErrArg},
		{one(10, txt(11, side(far+2, 1))), api.ErrLarge},

		{one(10, num(8, far+2)), api.ErrLarge},
		{one(10, num(8, far)), api.ErrArg},
		{one(10, num(8, 41)), api.ErrArg},
		{one(10, num(8, 40)), api.OK},
		{one(10, num(8, far+2), txt(11, bad)), api.ErrShort},
		{one(10, txt(10, bad), attr(7, "A", "")), api.ErrShort},
		{one(10, txt(10, side(5))), api.ErrForm},
		{one(10, txt(10, side(5, 0))), api.ErrForm},
		{one(10, txt(10, side(5, 1)), txt(10, bad)), api.ErrShort},
		{one(10, txt(10, bad), txt(10, side(5, 1))), api.OK},
	} {
		l, e := otlp.Decode(c.b)
		if e != c.e || e != api.OK && l != nil {
			t.Errorf("%d: %v %d, not %d", i, l, e, c.e)
		}
	}
	dup := request(attr(1, "a", "1"), metric(7, num(2, 1), txt(1, message(fix(3, 4), fix(6, 7), attr(7, "a", "2")))))
	if _, e := otlp.Decode(dup); e != api.ErrThere {
		t.Errorf("%d", e)
	}
	// The first point that isn't right ends it, ahead of what stands behind it.
	both := request(metric(7, num(2, 1), txt(1, message(fix(6, 7)))), txt(2, bad))
	if _, e := otlp.Decode(both); e != api.ErrArg {
		t.Errorf("%d", e)
	}
}

// P31.3.
func TestRoundTrip(t *testing.T) {
	l := some()
	b, _ := otlp.Encode(l)
	got, e := otlp.Decode(b)
	if e != api.OK || !slices.EqualFunc(got, l, point.Same) || got[0].Attrs[0].Key != "a" {
		t.Errorf("%v %d", got, e)
	}
	rnd := rand.New(rand.NewSource(1))
	taken := 0
	for range 20000 {
		c := bytes.Clone(b)
		c[rnd.Intn(len(c))] ^= 1 << rnd.Intn(8)
		got, e := otlp.Decode(c)
		if e != api.OK {
			continue
		}
		taken++
		d, e := otlp.Encode(got)
		again, f := otlp.Decode(d)
		if e != api.OK || f != api.OK || !slices.EqualFunc(got, again, point.Same) {
			t.Fatalf("%x: %v %v", c, got, again)
		}
	}
	if taken < 2000 {
		t.Errorf("%d", taken)
	}
	group := request(attr(1, "k", "v"), metric(5, txt(1, nil), txt(1, nil)))
	two, _ := otlp.Decode(group)
	two[0].Attrs[0].Key = "z"
	if two[1].Attrs[0].Key != "k" {
		t.Error("points share memory")
	}
}
