package net_test

import (
	"bytes"
	"math"
	"math/rand"
	"testing"

	"limnograph/api"
	"limnograph/net"
)

// same tells whether two messages are the same.
func same(a, b api.Msg) bool {
	return a.Ack == b.Ack && a.Have == b.Have && bytes.Equal(a.Data, b.Data)
}

// data and ack are messages.
func data(s string) api.Msg {
	return api.Msg{Data: []byte(s)}
}

func ack(n int) api.Msg {
	return api.Msg{Ack: true, Have: n}
}

// P23.1, P23.3: which messages are right.
func TestRight(t *testing.T) {
	for i, c := range []struct {
		m  api.Msg
		ok bool
	}{
		{api.Msg{}, true},
		{data("x"), true},
		{ack(0), true},
		{ack(api.MaxOrd + 1), true},
		{ack(api.MaxOrd + 2), false},
		{ack(-1), false},
		{ack(math.MinInt), false},
		{api.Msg{Ack: true, Data: []byte("x")}, false},
		{api.Msg{Ack: true, Data: []byte{}}, true},
		{api.Msg{Have: 1}, false},
		{api.Msg{Have: -1}, false},

		{api.Msg{Data: make([]byte, api.MaxPayload)}, true},
		{api.Msg{Data: make([]byte, api.MaxPayload+1)}, false},
	} {
		n := net.New()
		if n.Send(c.m) != c.ok || (n.Len() == 1) != c.ok {
			t.Errorf("%d", i)
		}
		b, e := net.Bytes(c.m)
		if (e == api.OK) != c.ok || !c.ok && (e != api.ErrArg || b != nil) {
			t.Errorf("Bytes %d: %d", i, e)
		}
		if m, e := net.Read(b); c.ok && (e != api.OK || !same(m, c.m)) {
			t.Errorf("Read %d: %v %d", i, m, e)
		}
	}
	n := net.New()
	for i := range api.MaxNet {
		if !n.Send(ack(i)) {
			t.Fatal("Send")
		}
	}
	if n.Send(ack(1)) || n.Double(0) || n.Len() != api.MaxNet {
		t.Error("more than MaxNet")
	}
	if n.Take(5); !n.Double(7) || n.Double(7) {
		t.Error("Double")
	}
	if m, _ := n.Look(api.MaxNet - 1); m.Have != 8 {
		t.Errorf("%v", m)
	}
}

// P23.1, P23.2, P23.4: against a list.
func TestModel(t *testing.T) {
	rnd := rand.New(rand.NewSource(1))
	for range 200 {
		n := net.New()
		var model []api.Msg
		for i := range 60 {
			a, b := rnd.Intn(8)-1, rnd.Intn(8)-1
			in := a >= 0 && a < len(model)
			switch rnd.Intn(5) {
			case 0, 1:
				m := data(string(make([]byte, i)))
				if rnd.Intn(2) == 0 {
					m = ack(i)
				}
				n.Send(m)
				model = append(model, m)
			case 2:
				m, ok := n.Take(a)
				if ok != in || in && !same(m, model[a]) || !in && !same(m, api.Msg{}) {
					t.Fatalf("Take(%d): %v", a, m)
				}
				if in {
					model = append(append([]api.Msg{}, model[:a]...), model[a+1:]...)
				}
			case 3:
				if n.Double(a) != in {
					t.Fatal("Double")
				}
				if in {
					model = append(model, model[a])
				}
			case 4:
				both := in && b >= 0 && b < len(model)
				if n.Turn(a, b) != both {
					t.Fatal("Turn")
				}
				if both {
					model[a], model[b] = model[b], model[a]
				}
			}
			acks := 0
			for k, want := range model {
				if m, ok := n.Look(k); !ok || !same(m, want) {
					t.Fatalf("Look(%d): %v", k, m)
				}
				if want.Ack {
					acks++
				}
			}
			if n.Len() != len(model) || n.Count(true) != acks || n.Count(false) != len(model)-acks {
				t.Fatal("Len")
			}
		}
		for _, i := range []int{-1, n.Len(), math.MaxInt, math.MinInt} {
			m, ok := n.Look(i)
			if _, ok2 := n.Take(i); ok || ok2 || !same(m, api.Msg{}) || n.Double(i) || n.Turn(i, 0) || n.Turn(0, i) {
				t.Fatalf("at %d", i)
			}
		}
	}
}

// P23.3: Read.
func TestRead(t *testing.T) {
	if b, _ := net.Bytes(ack(3)); !bytes.Equal(b, []byte{1, 3}) {
		t.Errorf("%x", b)
	}
	if b, _ := net.Bytes(data("ab")); !bytes.Equal(b, []byte{0, 2, 'a', 'b'}) {
		t.Errorf("%x", b)
	}
	big, _ := net.Bytes(ack(api.MaxOrd + 1))
	big[len(big)-1]++
	for i, c := range []struct {
		b []byte
		e api.Errno
	}{
		{nil, api.ErrShort},
		{[]byte{2}, api.ErrLarge},
		{[]byte{1}, api.ErrShort},
		{[]byte{0}, api.ErrShort},
		{[]byte{1, 3, 0}, api.ErrForm},
		{[]byte{0, 1, 'a', 0}, api.ErrForm},
		{[]byte{0, 2, 'a'}, api.ErrShort},
		{[]byte{0x80, 1, 1}, api.ErrForm},
		{big, api.ErrLarge},
		{append([]byte{0, 0xc1, 0, 1}, make([]byte, 65537)...), api.ErrLarge},
		{[]byte{0, 0}, api.OK},
	} {
		if m, e := net.Read(c.b); e != c.e || e != api.OK && !same(m, api.Msg{}) {
			t.Errorf("%d: %v %d", i, m, e)
		}
	}
}

// P23.4: memory.
func TestMemory(t *testing.T) {
	n := net.New()
	m := data("ab")
	n.Send(m)
	n.Double(0)
	m.Data[0] = 'x'
	a, _ := n.Look(0)
	a.Data[0] = 'y'
	b, _ := n.Take(0)
	b.Data[1] = 'z'
	if c, _ := n.Take(0); string(c.Data) != "ab" {
		t.Errorf("%q", c.Data)
	}
}
