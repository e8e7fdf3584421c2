package symtab_test

import (
	"bytes"
	"math"
	"math/rand"
	"slices"
	"strconv"
	"strings"
	"testing"

	"limnograph/api"
	"limnograph/pack"
	"limnograph/symtab"
)

// long is so many bytes.
func long(n int) string {
	return strings.Repeat("z", n)
}

// P34.1.
func TestBuild(t *testing.T) {
	var many []string
	for i := range 4097 {
		many = append(many, strconv.Itoa(10000+i))
	}
	for i, c := range []struct {
		l []string
		b []byte
		e api.Errno
	}{
		{nil, []byte{0}, api.OK},
		{[]string{""}, []byte{1, 0, 0}, api.OK},
		{[]string{"ab", "abc"}, []byte{2, 0, 2, 'a', 'b', 2, 1, 'c'}, api.OK},
		{[]string{"a", "b"}, []byte{2, 0, 1, 'a', 0, 1, 'b'}, api.OK},
		{many, nil, api.ErrLarge},
		{[]string{long(401)}, nil, api.ErrLarge},
		{[]string{"a", "a"}, nil, api.ErrOrder},
		{[]string{"b", "a"}, nil, api.ErrOrder},
		{[]string{"ab", "a", long(401)}, nil, api.ErrOrder},
		{[]string{"", ""}, nil, api.ErrOrder},
		{[]string{"zz", long(401), ""}, nil, api.ErrLarge},

		{
			[]string{"a", "aa", "aaa", "aab", "aac", "aad", "aae", "aaf", "aag", "aah"},
			[]byte{10, 0, 1, 'a', 1, 1, 'a', 2, 1, 'a', 2, 1, 'b', 2, 1, 'c', 2, 1, 'd', 2, 1, 'e', 2, 1, 'f', 0, 3, 'a', 'a', 'g', 2, 1, 'h'},
			api.OK,
		},
	} {
		if b, e := symtab.Build(c.l); !bytes.Equal(b, c.b) || e != c.e {
			t.Errorf("%d: %x %d", i, b, e)
		}
	}
	b, e := symtab.Build(many[:4096])
	x, f := symtab.Open(b)
	if e != api.OK || f != api.OK || !slices.Equal(x.All(), many[:4096]) {
		t.Errorf("%d %d", e, f)
	}
	if b, e := symtab.Build([]string{long(399), long(400)}); e != api.OK || len(b) < 400 {
		t.Errorf("%d", e)
	}
}

// raw is bytes of a count, and of shared counts and rests.
func raw(n int, l ...any) []byte {
	w := pack.NewWriter()
	w.Num(uint64(n))
	for _, v := range l {
		switch v := v.(type) {
		case int:
			w.Num(uint64(v))
		case string:
			w.Text(v)
		}
	}
	return w.Bytes()
}

// P34.2.
func TestOpen(t *testing.T) {
	eight := []any{0, "a", 0, "b", 0, "c", 0, "d", 0, "e", 0, "f", 0, "g", 0, "ha"}
	for i, c := range []struct {
		b []byte
		e api.Errno
	}{
		{nil, api.ErrShort},
		{raw(0), api.OK},
		{raw(4097), api.ErrLarge},
		{raw(4096), api.ErrShort},
		{raw(0, 0), api.ErrForm},
		{raw(1, 0), api.ErrShort},
		{raw(1, 0, ""), api.OK},
		{raw(1, 401, "a"), api.ErrLarge},
		{raw(1, 400, long(401)), api.ErrLarge},
		{raw(1, 1, "a"), api.ErrForm},
		{raw(1, 1), api.ErrShort},
		{raw(2, 0, "ab", 3, "c"), api.ErrForm},
		{raw(2, 0, "ab", 2, "c"), api.OK},
		{raw(2, 0, "ab", 1, "bc"), api.ErrForm},
		{raw(2, 0, "ab", 2, ""), api.ErrOrder},
		{raw(2, 0, "ab", 1, "a"), api.ErrOrder},
		{raw(2, 0, "ab", 0, "aa"), api.ErrOrder},
		{raw(2, 0, "ab", 0, "ac"), api.ErrForm},

		{raw(2, 0, long(400), 400, "a"), api.ErrLarge},
		{raw(2, 0, long(400), 399, "~"), api.OK},
		{raw(2, 0, long(400), 399, "~~"), api.ErrLarge},
		{raw(2, 0, long(400), 400, long(401)), api.ErrLarge},
		{raw(9, append(slices.Clone(eight), 0, "hb")...), api.OK},
		{raw(9, append(slices.Clone(eight), 1, "b")...), api.ErrForm},
		{raw(9, append(slices.Clone(eight), 1, "a")...), api.ErrOrder},
		{raw(8, append(slices.Clone(eight), 0, "hb")...), api.ErrForm},
		{raw(2, 0, "b", 0, "a", 0), api.ErrOrder},
		{raw(2, 0, "", 0, "a"), api.OK},
		{raw(2, 0, "", 0, ""), api.ErrOrder},
	} {
		x, e := symtab.Open(c.b)
		if e != c.e || (x != nil) != (e == api.OK) {
			t.Errorf("%d: %d", i, e)
		}
		if x != nil {
			if b, e := symtab.Build(x.All()); e != api.OK || !bytes.Equal(b, c.b) {
				t.Errorf("%d: %x", i, b)
			}
		}
	}
}

// P34.3, P34.4.
func TestTable(t *testing.T) {
	rnd := rand.New(rand.NewSource(1))
	for range 500 {
		var l []string
		for range rnd.Intn(40) {
			s := ""
			for range rnd.Intn(6) {
				s += string("ab\xff"[rnd.Intn(3)])
			}
			l = append(l, s)
		}
		slices.Sort(l)
		l = slices.Compact(l)
		b, _ := symtab.Build(l)
		x, e := symtab.Open(b)
		if e != api.OK || x.Len() != len(l) || !slices.Equal(x.All(), l) {
			t.Fatalf("%q: %d", l, e)
		}
		for _, i := range []int{-1, 0, len(l) - 1, len(l), math.MaxInt, math.MinInt} {
			s, ok := x.At(i)
			if in := i >= 0 && i < len(l); ok != in || in && s != l[i] || !in && s != "" {
				t.Fatalf("At(%d): %q", i, s)
			}
		}
		for _, s := range append([]string{"", "a", "ab", "b", "\xff", "zz"}, l...) {
			below, from, n := 0, -1, 0
			for i, v := range l {
				if v < s {
					below++
				}
				if strings.HasPrefix(v, s) {
					if from < 0 {
						from = i
					}
					n++
				}
			}
			if from < 0 {
				from = below
			}
			i, ok := x.Find(s)
			if at := slices.Index(l, s); ok != (at >= 0) || i != max(0, at) {
				t.Fatalf("Find(%q): %d %v", s, i, ok)
			}
			if a, b := x.Prefix(s); x.Below(s) != below || a != from || b != from+n {
				t.Fatalf("%q: %d, %d to %d", s, x.Below(s), a, b)
			}
		}
		if len(l) > 0 {
			x.All()[0] = "changed"
			in := slices.Clone(b)
			y, _ := symtab.Open(in)
			for i := range in {
				in[i] = 0
			}
			if !slices.Equal(x.All(), l) || !slices.Equal(y.All(), l) {
				t.Fatal("memory is shared")
			}
		}
	}
}
