package label_test

import (
	"slices"
	"strings"
	"testing"

	"limnograph/api"
	"limnograph/label"
)

// pairs are attributes that texts tell: key, value, key, value.
func pairs(l ...string) []api.Pair {
	var out []api.Pair
	for i := 0; i < len(l); i += 2 {
		out = append(out, api.Pair{Key: l[i], Val: l[i+1]})
	}
	return out
}

var x32, x33 = strings.Repeat("x", 32), strings.Repeat("x", 33)

// P11.1: Check.
func TestCheck(t *testing.T) {
	for _, c := range []struct {
		name  string
		attrs []api.Pair
		e     api.Errno
	}{
		{"cpu", nil, api.OK},
		{"", nil, api.ErrForm},
		{"Cpu", nil, api.ErrForm},
		{"c0_.z9", nil, api.OK},
		{"0c", nil, api.ErrForm},
		{"_c", nil, api.ErrForm},
		{".c", nil, api.ErrForm},
		{"c-d", nil, api.ErrForm},
		{"c d", nil, api.ErrForm},

		{"cD", nil, api.ErrForm},
		{"c\x80", nil, api.ErrForm},
		{x32, nil, api.OK},
		{x33, nil, api.ErrForm},
		{"{", nil, api.ErrForm},
		{"`", nil, api.ErrForm},
		{"a/", nil, api.ErrForm},
		{"a:", nil, api.ErrForm},

		{"c", pairs(x32, x32), api.OK},
		{"c", pairs(x33, "v"), api.ErrForm},
		{"c", pairs("k", x33), api.ErrForm},
		{"c", pairs("", "v"), api.ErrForm},
		{"c", pairs("k", ""), api.ErrForm},
		{"c", pairs("K", "v"), api.ErrForm},

		{"c", pairs("k", "!~AZ\"\\{}[]"), api.OK},
		{"c", pairs("k", " "), api.ErrForm},
		{"c", pairs("k", "\x7f"), api.ErrForm},
		{"c", pairs("k", "a=b"), api.ErrForm},
		{"c", pairs("k", "a;b"), api.ErrForm},
		{"c", pairs("k", "a,b"), api.ErrForm},

		{"c", pairs("d", "1", "c", "1", "b", "1", "a", "1"), api.OK},
		{"c", pairs("d", "1", "c", "1", "b", "1", "a", "1", "", ""), api.ErrLarge},
		{"C", pairs("d", "1", "c", "1", "b", "1", "a", "1", "", ""), api.ErrForm},

		{"c", pairs("a", "1", "a", "2"), api.ErrThere},
		{"c", pairs("a", "1", "a", ""), api.ErrForm},
		{"c", pairs("a", "1", "b", "1", "a", "1", "", ""), api.ErrThere},
	} {
		if e := label.Check(c.name, c.attrs); e != c.e {
			t.Errorf("%q %q: %d", c.name, c.attrs, e)
		}
		if s, e := label.Text(c.name, c.attrs); e != c.e || (s != "") != (e == api.OK) {
			t.Errorf("Text %q %q: %q %d", c.name, c.attrs, s, e)
		}
	}
}

// P11.1: Sorted.
func TestSorted(t *testing.T) {
	in := pairs("b", "2", "a", "1", "b", "1", "", "x", "a", "0")
	want := pairs("", "x", "a", "1", "a", "0", "b", "2", "b", "1")
	if got := label.Sorted(in); !slices.Equal(got, want) || in[0].Key != "b" {
		t.Errorf("%q", got)
	}
	if len(label.Sorted(nil)) != 0 {
		t.Error("of none")
	}
	one := pairs("a", "1")
	label.Sorted(one)[0].Key = "z"
	if one[0].Key != "a" {
		t.Error("Sorted shares memory")
	}
}

// P11.2: Text.
func TestText(t *testing.T) {
	if s, e := label.Text("cpu", pairs("b", "2", "a", "1")); s != "cpu;a=1;b=2" || e != api.OK {
		t.Errorf("%q %d", s, e)
	}
	if s, e := label.Text("cpu", nil); s != "cpu" || e != api.OK {
		t.Errorf("%q %d", s, e)
	}
}

// P11.2, P11.3: Parse.
func TestParse(t *testing.T) {
	for _, c := range []struct {
		s  string
		at int
		e  api.Errno
	}{
		{"cpu", 0, api.OK},
		{"cpu;a=1;b=2", 0, api.OK},
		{"", 0, api.ErrForm},
		{"Cpu", 0, api.ErrForm},
		{";a=1", 0, api.ErrForm},
		{"cpu;", 4, api.ErrForm},
		{"cpu;b=2;a=1", 8, api.ErrOrder},
		{"cpu;a=1;a=1", 8, api.ErrThere},

		{"cpu;a=1;b=1;a=1", 12, api.ErrThere},
		{"cpu;a", 4, api.ErrForm},
		{"cpu;a=", 4, api.ErrForm},
		{"cpu;=1", 4, api.ErrForm},
		{"cpu;a=1=2", 4, api.ErrForm},
		{"cpu;a=1;;b=1", 8, api.ErrForm},
		{"cpu;a=1;b=1;c=1;d=1", 0, api.OK},

		{"cpu;a=1;b=1;c=1;d=1;", 20, api.ErrLarge},
		{"cpu;a=1;b=1;c=1;d=1;e=1;f", 20, api.ErrLarge},
		{"cpu;a=1;A=1", 8, api.ErrForm},
		{"cpu;a=1;b= ", 8, api.ErrForm},
		{"cpu ", 0, api.ErrForm},
		{"C;b=2;a=1", 0, api.ErrForm},
	} {
		name, attrs, at, e := label.Parse(c.s)
		if at != c.at || e != c.e || e != api.OK && (name != "" || len(attrs) != 0) {
			t.Errorf("%q: %q %q %d %d", c.s, name, attrs, at, e)
		}
		if s, f := label.Text(name, attrs); e == api.OK && (s != c.s || f != api.OK) {
			t.Errorf("%q: %q", c.s, s)
		}
	}
	name, attrs, _, _ := label.Parse("cpu;a=1;b=2")
	if name != "cpu" || !slices.Equal(attrs, pairs("a", "1", "b", "2")) {
		t.Errorf("%q %q", name, attrs)
	}
}

// P11.3: one text just of one label.
func TestOneText(t *testing.T) {
	l := [][]api.Pair{nil, pairs("a", "1"), pairs("a", "2"), pairs("b", "1"), pairs("a", "1", "b", "1"), pairs("b", "1", "a", "1"), pairs("a", "1b"), pairs("a1", "b")}
	for i, a := range l {
		for k, b := range l {
			x, _ := label.Text("x", a)
			y, _ := label.Text("x", b)
			if (x == y) != slices.Equal(label.Sorted(a), label.Sorted(b)) {
				t.Errorf("%d %d: %q %q", i, k, x, y)
			}
			name, attrs, _, e := label.Parse(x)
			if e != api.OK || name != "x" || !slices.Equal(attrs, label.Sorted(a)) {
				t.Errorf("%q: %q %q %d", x, name, attrs, e)
			}
		}
	}
}

// P11.4.
func TestMatches(t *testing.T) {
	for i, c := range []struct {
		name   string
		attrs  []api.Pair
		name2  string
		attrs2 []api.Pair
		ok     bool
	}{
		{"a", nil, "a", nil, true},
		{"a", nil, "b", nil, false},
		{"a", pairs("k", "1", "l", "2"), "a", pairs("l", "2"), true},
		{"a", pairs("k", "1"), "a", pairs("k", "2"), false},
		{"a", pairs("k", "1"), "a", pairs("l", "1"), false},

		{"a", pairs("k", "1"), "a", pairs("k", "1", "l", "2"), false},
		{"a", pairs("l", "2", "k", "1"), "a", pairs("k", "1", "l", "2"), true},
		{"A", nil, "A", nil, false},
		{"a", pairs("k", ""), "a", nil, false},
		{"a", nil, "a", pairs("k", ""), false},
	} {
		if ok := label.Matches(c.name, c.attrs, c.name2, c.attrs2); ok != c.ok {
			t.Errorf("%d: %v", i, ok)
		}
	}
}
