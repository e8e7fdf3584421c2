package index_test

import (
	"bytes"
	"math"
	"math/rand"
	"slices"
	"strconv"
	"strings"
	"testing"

	"limnograph/api"
	"limnograph/chunk"
	"limnograph/glob"
	"limnograph/index"
	"limnograph/pack"
)

// keys are those of five series.
func keys() []string {
	return []string{"cpu;host=a;zone=1 111", "cpu;host=b 111", "mem;host=a 300", "net 210", "cpu;host=c;zone=2 120"}
}

// open is the index of the five series.
func open(t *testing.T) *index.Index {
	t.Helper()
	x, at, e := index.New(keys())
	if x == nil || at != 0 || e != api.OK {
		t.Fatalf("New: %d at %d", e, at)
	}
	return x
}

// P35.1.
func TestNew(t *testing.T) {
	var many []string
	for i := range 4097 {
		many = append(many, "x"+strconv.Itoa(i)+" 111")
	}
	for i, c := range []struct {
		keys []string
		at   int
		e    api.Errno
	}{
		{nil, 0, api.OK},
		{many, 4096, api.ErrLarge},
		{many[1:], 0, api.OK},
		{[]string{"x 111", "y"}, 1, api.ErrForm},
		{[]string{"x 111", "y 110", "x 111", ""}, 2, api.ErrThere},
		{[]string{""}, 0, api.ErrForm},
		{[]string{"x;b=1;a=1 111"}, 0, api.ErrForm},
		{[]string{"x 111", "x 110"}, 0, api.OK},
		{make([]string, 4097), 4096, api.ErrLarge},
	} {
		x, at, e := index.New(c.keys)
		if at != c.at || e != c.e || (x != nil) != (e == api.OK) {
			t.Errorf("%d: %d at %d", i, e, at)
		}
	}
	x := open(t)
	for i, want := range append(keys(), "") {
		if x.Key(i) != want {
			t.Errorf("%d: %q", i, x.Key(i))
		}
	}
	if x.Len() != 5 || x.Key(-1) != "" || x.Key(math.MaxInt) != "" || x.Key(math.MinInt) != "" {
		t.Error("Key")
	}
}

// P35.2: Having, Values.
func TestHaving(t *testing.T) {
	x := open(t)
	for _, c := range []struct {
		key, val string
		row      []int
	}{
		{"", "cpu", []int{0, 1, 4}},
		{"", "net", []int{3}},
		{"", "", nil},
		{"host", "a", []int{0, 2}},
		{"host", "", nil},
		{"host", "d", nil},
		{"zone", "2", []int{4}},
		{"none", "1", nil},
		{"HOST", "a", nil},
	} {
		if row := x.Having(c.key, c.val); !slices.Equal(row, c.row) {
			t.Errorf("%q=%q: %v", c.key, c.val, row)
		}
	}
	for _, c := range []struct {
		key  string
		vals []string
	}{{"", []string{"cpu", "mem", "net"}}, {"host", []string{"a", "b", "c"}}, {"zone", []string{"1", "2"}}, {"none", nil}} {
		if vals := x.Values(c.key); !slices.Equal(vals, c.vals) {
			t.Errorf("%q: %q", c.key, vals)
		}
	}
}

// P35.2: Select.
func TestSelect(t *testing.T) {
	x := open(t)
	for i, c := range []struct {
		l   []api.Match
		row []int
		at  int
		e   api.Errno
	}{
		{nil, []int{0, 1, 2, 3, 4}, 0, api.OK},
		{[]api.Match{{Glob: "cpu"}}, []int{0, 1, 4}, 0, api.OK},
		{[]api.Match{{Glob: "cpu", Not: true}}, []int{2, 3}, 0, api.OK},
		{[]api.Match{{Key: "host", Glob: "a"}}, []int{0, 2}, 0, api.OK},
		{[]api.Match{{Key: "host", Glob: ""}}, []int{3}, 0, api.OK},
		{[]api.Match{{Key: "host", Glob: "", Not: true}}, []int{0, 1, 2, 4}, 0, api.OK},
		{[]api.Match{{Key: "host", Glob: "*"}}, []int{0, 1, 2, 3, 4}, 0, api.OK},
		{[]api.Match{{Key: "host", Glob: "?*"}}, []int{0, 1, 2, 4}, 0, api.OK},

		{[]api.Match{{Key: "zone", Glob: "1", Not: true}}, []int{1, 2, 3, 4}, 0, api.OK},
		{[]api.Match{{Glob: "c*"}, {Key: "host", Glob: "[a-b]"}}, []int{0, 1}, 0, api.OK},
		{[]api.Match{{Glob: "c*"}, {Glob: "m*"}}, nil, 0, api.OK},
		{[]api.Match{{Key: "none", Glob: "x"}}, nil, 0, api.OK},
		{[]api.Match{{Key: "none", Glob: "x", Not: true}}, []int{0, 1, 2, 3, 4}, 0, api.OK},
		{[]api.Match{{Glob: ""}}, nil, 0, api.OK},

		{[]api.Match{{Glob: "x"}, {Glob: "["}}, nil, 1, api.ErrShort},
		{[]api.Match{{Key: "K", Glob: "[]"}}, nil, 0, api.ErrForm},
		{[]api.Match{{Key: "K", Glob: "["}}, nil, 0, api.ErrShort},
		{[]api.Match{{}, {Key: "K"}, {Glob: "["}}, nil, 1, api.ErrForm},
		{[]api.Match{{Glob: strings.Repeat("a", 65)}}, nil, 0, api.ErrLarge},
	} {
		row, at, e := x.Select(c.l)
		if !slices.Equal(row, c.row) || at != c.at || e != c.e {
			t.Errorf("%d: %v, %d at %d", i, row, e, at)
		}
	}
	none, _, _ := index.New(nil)
	if row, _, e := none.Select(nil); len(row) != 0 || e != api.OK {
		t.Errorf("%v %d", row, e)
	}
}

// P35.2: against each series by itself.
func TestModel(t *testing.T) {
	rnd := rand.New(rand.NewSource(1))
	for range 300 {
		var l []string
		for i := range rnd.Intn(20) {
			s := []string{"a", "b", "ab"}[rnd.Intn(3)]
			for _, k := range []string{"k", "l"} {
				if rnd.Intn(2) == 0 {
					s += ";" + k + "=" + strconv.Itoa(rnd.Intn(3))
				}
			}
			l = append(l, s+";n="+strconv.Itoa(i)+" 111")
		}
		x, _, _ := index.New(l)
		var ask []api.Match
		for range rnd.Intn(3) {
			ask = append(ask, api.Match{Key: []string{"", "k", "l", "m"}[rnd.Intn(4)], Glob: []string{"*", "", "?", "[a1]", "a*"}[rnd.Intn(5)], Not: rnd.Intn(2) == 0})
		}
		var want []int
		for i, key := range l {
			p, _ := chunk.Series(key)
			ok := true
			for _, m := range ask {
				g, _, _ := glob.Compile(m.Glob)
				val := ""
				if m.Key == "" {
					val = p.Name
				}
				for _, a := range p.Attrs {
					if a.Key == m.Key {
						val = a.Val
					}
				}
				ok = ok && g.Match(val) != m.Not
			}
			if ok {
				want = append(want, i)
			}
		}
		if row, _, e := x.Select(ask); e != api.OK || !slices.Equal(row, want) {
			t.Fatalf("%q, %v: %v, not %v", l, ask, row, want)
		}
	}
}

// P35.3.
func TestRows(t *testing.T) {
	rnd := rand.New(rand.NewSource(2))
	for range 2000 {
		var a, b, and, or, less []int
		for i := range 12 {
			inA, inB := rnd.Intn(2) == 0, rnd.Intn(2) == 0
			if inA {
				a = append(a, i)
			}
			if inB {
				b = append(b, i)
			}
			if inA && inB {
				and = append(and, i)
			}
			if inA || inB {
				or = append(or, i)
			}
			if inA && !inB {
				less = append(less, i)
			}
		}
		if !slices.Equal(index.And(a, b), and) || !slices.Equal(index.Or(a, b), or) || !slices.Equal(index.Less(a, b), less) {
			t.Fatalf("%v, %v", a, b)
		}
	}
	wild := []int{5, -1, 5, math.MinInt, math.MaxInt, 0}
	index.And(wild, wild[2:])
	index.Or(wild, wild[1:])
	index.Less(wild[3:], wild)
}

// P35.4.
func TestBytes(t *testing.T) {
	nums := func(l ...uint64) []byte {
		w := pack.NewWriter()
		for _, v := range l {
			w.Num(v)
		}
		return w.Bytes()
	}
	for i, c := range []struct {
		l []int
		b []byte
		e api.Errno
	}{
		{nil, []byte{0}, api.OK},
		{[]int{3, 4, 9}, []byte{3, 3, 0, 4}, api.OK},
		{[]int{0}, []byte{1, 0}, api.OK},
		{[]int{0, 1}, []byte{2, 0, 0}, api.OK},
		{[]int{api.MaxOrd}, nums(1, api.MaxOrd), api.OK},
		{[]int{api.MaxOrd + 1}, nil, api.ErrLarge},
		{[]int{1, math.MaxInt}, nil, api.ErrLarge},
		{[]int{-1}, nil, api.ErrOrder},
		{[]int{math.MinInt}, nil, api.ErrOrder},
		{[]int{2, 2}, nil, api.ErrOrder},
		{[]int{math.MaxInt, 2}, nil, api.ErrOrder},
	} {
		b, e := index.Bytes(c.l)
		if !bytes.Equal(b, c.b) || e != c.e {
			t.Errorf("%d: %x %d", i, b, e)
		}
		if l, e := index.Read(b); c.e == api.OK && (e != api.OK || !slices.Equal(l, c.l)) {
			t.Errorf("%d: %v %d", i, l, e)
		}
	}
	for i, c := range []struct {
		b []byte
		e api.Errno
	}{
		{nil, api.ErrShort},
		{nums(65537), api.ErrLarge},
		{nums(65536), api.ErrShort},
		{nums(1), api.ErrShort},
		{nums(1, 0, 0), api.ErrForm},
		{nums(0, 0), api.ErrForm},
		{[]byte{1, 0x80, 1}, api.ErrForm},
		{nums(1, api.MaxOrd+1), api.ErrLarge},
		{nums(2, 0, api.MaxOrd), api.ErrLarge},
		{nums(2, 0, api.MaxOrd-1), api.OK},
		{nums(2, 5, math.MaxUint64), api.ErrLarge},
		{nums(2, math.MaxUint64), api.ErrLarge},
	} {
		if l, e := index.Read(c.b); e != c.e || e != api.OK && l != nil {
			t.Errorf("%d: %v %d", i, l, e)
		}
	}
}

// P35.5.
func TestMemory(t *testing.T) {
	in := keys()
	x, _, _ := index.New(in)
	in[0] = "changed"
	x.Having("host", "a")[0] = 99
	x.Values("host")[0] = "z"
	row, _, _ := x.Select([]api.Match{{Glob: "cpu"}})
	row[0] = 99
	row = append(row[:1], 98)
	if x.Key(0) != keys()[0] || !slices.Equal(x.Having("host", "a"), []int{0, 2}) || !slices.Equal(x.Having("", "cpu"), []int{0, 1, 4}) || x.Values("host")[0] != "a" || len(row) != 2 {
		t.Error("memory is shared")
	}
	a := []int{1, 2}
	for _, l := range [][]int{index.And(a, a), index.Or(a, nil), index.Less(a, nil)} {
		l[0] = 9
	}
	if a[0] != 1 {
		t.Error("memory is shared")
	}
}
