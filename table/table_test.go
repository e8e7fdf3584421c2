package table_test

import (
	"math"
	"math/rand"
	"slices"
	"testing"

	"limnograph/table"
)

// P14.1.
func TestPut(t *testing.T) {
	x := table.New[int](1)
	if x.Len() != 0 || !x.Put("a", 1) || x.Put("b", 2) || !x.Put("a", 3) || x.Len() != 1 {
		t.Error("Put")
	}
	if v, ok := x.Get("a"); v != 3 || !ok {
		t.Errorf("%d %v", v, ok)
	}
	if v, ok := x.Get("b"); v != 0 || ok {
		t.Errorf("%d %v", v, ok)
	}
	if x.Del("b") || !x.Del("a") || x.Del("a") || x.Len() != 0 || !x.Put("b", 2) {
		t.Error("Del")
	}
	for _, most := range []int{0, -1, math.MinInt} {
		x := table.New[string](most)
		if x.Put("a", "b") || x.Len() != 0 || x.Room() != 0 {
			t.Errorf("most %d", most)
		}
	}
	if x := table.New[int](math.MaxInt); !x.Put("", 1) || x.Room() != math.MaxInt-1 {
		t.Error("most MaxInt")
	}
}

// P14.2.
func TestKeys(t *testing.T) {
	x := table.New[float64](5)
	if k, ok := x.Oldest(); k != "" || ok || len(x.Keys()) != 0 || x.Room() != 5 {
		t.Error("of none")
	}
	for _, k := range []string{"b", "a", "bb", ""} {
		x.Put(k, 1)
	}
	if !slices.Equal(x.Keys(), []string{"", "a", "b", "bb"}) || x.Len() != 4 || x.Room() != 1 {
		t.Errorf("%q", x.Keys())
	}
	for _, want := range []string{"b", "a", "bb", ""} {
		if k, ok := x.Oldest(); k != want || !ok {
			t.Errorf("%q, not %q", k, want)
		}
		x.Put(want, 2)
	}
	if k, _ := x.Oldest(); k != "b" {
		t.Errorf("%q", k)
	}
	y := x.Clone()
	x.Put("c", 1)
	x.Del("b")
	y.Put("a", 7)
	if y.Len() != 4 || x.Len() != 4 || !slices.Equal(x.Keys(), []string{"", "a", "bb", "c"}) || !slices.Equal(y.Keys(), []string{"", "a", "b", "bb"}) {
		t.Error("Clone")
	}
	if v, _ := x.Get("a"); v != 2 {
		t.Errorf("%f", v)
	}
	if k, _ := y.Oldest(); k != "b" || y.Room() != 1 {
		t.Errorf("%q", k)
	}
}

// P14.3: what is told hangs on what was put and taken away alone.
func TestModel(t *testing.T) {
	rnd := rand.New(rand.NewSource(1))
	for range 300 {
		most := rnd.Intn(6)
		x := table.New[int](most)
		var order []string
		vals := map[string]int{}
		for i := range 60 {
			k := string('a' + rune(rnd.Intn(8)))
			at := slices.Index(order, k)
			if rnd.Intn(3) == 0 {
				if x.Del(k) != (at >= 0) {
					t.Fatal("Del")
				}
				if at >= 0 {
					order = slices.Delete(order, at, at+1)
				}
				continue
			}
			ok := at >= 0 || len(order) < most
			if x.Put(k, i) != ok {
				t.Fatal("Put")
			}
			if at >= 0 {
				order = slices.Delete(order, at, at+1)
			}
			if ok {
				order = append(order, k)
				vals[k] = i
			}
			if rnd.Intn(9) == 0 {
				x = x.Clone()
			}
		}
		if x.Len() != len(order) || x.Room() != most-len(order) || !slices.Equal(x.Keys(), slices.Sorted(slices.Values(order))) {
			t.Fatal("Keys")
		}
		for _, k := range order {
			if v, ok := x.Get(k); v != vals[k] || !ok {
				t.Fatal("Get")
			}
			if o, ok := x.Oldest(); o != k || !ok {
				t.Fatal("Oldest")
			}
			x.Del(k)
		}
	}
	x := table.New[int](3)
	x.Put("a", 1)
	x.Keys()[0] = "z"
	if x.Keys()[0] != "a" {
		t.Error("Keys aren't new")
	}
}
