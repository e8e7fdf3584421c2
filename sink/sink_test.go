package sink_test

import (
	"math"
	"math/rand"
	"slices"
	"testing"

	"limnograph/api"
	"limnograph/point"
	"limnograph/segment"
	"limnograph/sink"
)

// at is the point of an ordinal.
func at(n int) api.Point {
	return api.Point{Name: []string{"a", "b"}[n%2], Attrs: []api.Pair{{Key: "k", Val: "v"}}, Kind: api.IntSum, Temp: api.Delta, Start: n, Time: n + 1, Int: n}
}

// seg is the segment of ordinals.
func seg(first, n int) []byte {
	var l []api.Point
	for i := range n {
		l = append(l, at(first+i))
	}
	b, _ := segment.Encode(api.Config{Points: 5, Bytes: 1000}, first, l)
	return b
}

// P24.1.
func TestTake(t *testing.T) {
	s := sink.New()
	for i, c := range []struct {
		data       []byte
		have, took int
		e          api.Errno
	}{
		{nil, 0, 0, api.ErrShort},
		{seg(1, 2), 0, 0, api.OK},
		{seg(0, 3), 3, 3, api.OK},
		{seg(0, 3), 3, 0, api.OK},
		{seg(5, 2), 3, 0, api.OK},
		{seg(4, 2), 3, 0, api.OK},
		{[]byte{0, 0, 0}, 3, 0, api.ErrForm},
		{seg(1, 4), 5, 2, api.OK},
		{seg(0, 2), 5, 0, api.OK},
		{seg(5, 1), 6, 1, api.OK},
		{append(seg(6, 1), 0), 6, 0, api.ErrForm},
	} {
		if have, took, e := s.Take(c.data); have != c.have || took != c.took || e != c.e || s.Len() != have {
			t.Errorf("%d: %d %d %d", i, have, took, e)
		}
	}
}

// P24.2.
func TestPoints(t *testing.T) {
	s := sink.New()
	if s.Len() != 0 || len(s.Points()) != 0 || len(s.From(-1)) != 0 || len(s.Series("a;k=v 120")) != 0 {
		t.Error("a new one has points")
	}
	s.Take(seg(0, 7))
	for _, c := range [][2]int{{0, 7}, {-1, 7}, {math.MinInt, 7}, {3, 4}, {6, 1}, {7, 0}, {math.MaxInt, 0}} {
		l := s.From(c[0])
		if len(l) != c[1] {
			t.Errorf("From(%d): %d", c[0], len(l))
		}
		for i, p := range l {
			if !point.Same(p, at(7-c[1]+i)) {
				t.Errorf("From(%d): %v", c[0], p)
			}
		}
	}
	l := s.Series("b;k=v 120")
	if len(l) != 3 || !point.Same(l[0], at(1)) || !point.Same(l[1], at(3)) || !point.Same(l[2], at(5)) || len(s.Series("b")) != 0 || len(s.Series("")) != 0 || len(s.Points()) != 7 {
		t.Errorf("%v", l)
	}
}

// P24.3.
func TestAnswer(t *testing.T) {
	s := sink.New()
	for i, c := range []struct {
		m    api.Msg
		have int
		ok   bool
	}{
		{api.Msg{Ack: true, Data: seg(0, 1)}, 0, false},
		{api.Msg{Data: []byte("junk")}, 0, false},
		{api.Msg{Data: seg(3, 1)}, 0, true},
		{api.Msg{Data: seg(0, 2)}, 2, true},
		{api.Msg{Data: seg(0, 1)}, 2, true},
	} {
		m, ok := s.Answer(c.m)
		if ok != c.ok || m.Ack != c.ok || m.Have != c.have || len(m.Data) != 0 {
			t.Errorf("%d: %v %v", i, m, ok)
		}
	}
}

// P24.4: whatever comes, the points are a beginning, each at its ordinal.
func TestWhatever(t *testing.T) {
	rnd := rand.New(rand.NewSource(1))
	for range 100 {
		s := sink.New()
		all := [][]byte{seg(0, 3), seg(3, 4), seg(7, 1), seg(8, 5)}
		order := rnd.Perm(12)
		for _, i := range order {
			was := s.Len()
			if s.Take(all[i%4]); s.Len() < was {
				t.Fatal("points went")
			}
			for n, p := range s.Points() {
				if !point.Same(p, at(n)) {
					t.Fatalf("%d: %v", n, p)
				}
			}
		}
		for _, b := range all {
			s.Take(b)
		}
		if s.Len() != 13 {
			t.Fatalf("%d", s.Len())
		}
	}
	s := sink.New()
	in := seg(0, 2)
	s.Take(in)
	in[len(in)-1] ^= 1
	s.Points()[0].Attrs[0].Key = "z"
	s.Series("a;k=v 120")[0].Attrs[0].Key = "z"
	l := s.From(0)
	l = slices.Grow(l, 10)
	l[1].Attrs[0].Key = "z"
	if !point.Same(s.Points()[0], at(0)) || !point.Same(s.Points()[1], at(1)) {
		t.Error("memory is shared")
	}
}
