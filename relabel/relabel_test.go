package relabel_test

import (
	"math/rand"
	"slices"
	"strings"
	"testing"

	"limnograph/api"
	"limnograph/point"
	"limnograph/relabel"
)

// with is a gauge with attributes: key, value, key, value.
func with(name string, l ...string) api.Point {
	p := api.Point{Name: name, Kind: api.Gauge, Start: 5, Time: 5, Re: 7, Flags: 1}
	for i := 0; i < len(l); i += 2 {
		p.Attrs = append(p.Attrs, api.Pair{Key: l[i], Val: l[i+1]})
	}
	return p
}

// keep, drop, set, rename and forget are rules.
func keep(key, glob string) api.Rule {
	return api.Rule{Kind: api.Keep, Key: key, Glob: glob}
}

func drop(key, glob string) api.Rule {
	return api.Rule{Kind: api.Drop, Key: key, Glob: glob}
}

func set(key, glob, to, val string) api.Rule {
	return api.Rule{Kind: api.Set, Key: key, Glob: glob, To: to, Val: val}
}

func rename(key, glob, to string) api.Rule {
	return api.Rule{Kind: api.Rename, Key: key, Glob: glob, To: to}
}

func forget(glob string) api.Rule {
	return api.Rule{Kind: api.Forget, Glob: glob}
}

// P33.1.
func TestCheck(t *testing.T) {
	long := strings.Repeat("x", 33)
	for i, c := range []struct {
		r api.Rule
		e api.Errno
	}{
		{keep("", "*"), api.OK},
		{keep("k", ""), api.OK},
		{drop("k", "*"), api.OK},
		{set("", "*", "env", "prod"), api.OK},
		{set("k", "*", "env", "prod"), api.OK},
		{rename("k", "*", "l"), api.OK},
		{rename("k", "*", "k"), api.OK},
		{forget("*"), api.OK},
		{api.Rule{Glob: "["}, api.ErrKind},
		{api.Rule{Kind: 6}, api.ErrKind},
		{api.Rule{Kind: -1}, api.ErrKind},

		{keep("K", "["), api.ErrShort},
		{keep("K", "[]"), api.ErrForm},
		{keep("", strings.Repeat("a", 65)), api.ErrLarge},
		{keep("K", "*"), api.ErrForm},
		{drop(long, "*"), api.ErrForm},
		{api.Rule{Kind: api.Keep, To: "a"}, api.ErrForm},
		{api.Rule{Kind: api.Keep, Val: "a"}, api.ErrForm},
		{api.Rule{Kind: api.Drop, To: "a"}, api.ErrForm},
		{set("", "*", "", "v"), api.ErrForm},
		{set("", "*", "k", ""), api.ErrForm},
		{set("", "*", "K", "v"), api.ErrForm},
		{set("", "*", "k", "a=b"), api.ErrForm},
		{set("1", "*", "k", "b"), api.ErrForm},

		{rename("", "*", "l"), api.ErrForm},
		{rename("k", "*", ""), api.ErrForm},
		{api.Rule{Kind: api.Rename, Key: "k", To: "l", Val: "v"}, api.ErrForm},
		{api.Rule{Kind: api.Forget, Key: "k"}, api.ErrForm},
		{api.Rule{Kind: api.Forget, To: "k"}, api.ErrForm},
		{api.Rule{Kind: api.Forget, Val: "k"}, api.ErrForm},
	} {
		if e := relabel.Check(c.r); e != c.e {
			t.Errorf("%d: %d", i, e)
		}
		x, at, e := relabel.Compile([]api.Rule{keep("", "*"), c.r, {}})
		if want := c.e; want == api.OK {
			if x != nil || at != 2 || e != api.ErrKind {
				t.Errorf("%d: %d at %d", i, e, at)
			}
		} else if x != nil || at != 1 || e != want {
			t.Errorf("%d: %d at %d", i, e, at)
		}
	}
	many := make([]api.Rule, 65)
	if x, at, e := relabel.Compile(many); x != nil || at != 64 || e != api.ErrLarge {
		t.Errorf("%d at %d", e, at)
	}
	for i := range many {
		many[i] = forget("")
	}
	if x, at, e := relabel.Compile(many[1:]); x == nil || at != 0 || e != api.OK || x.Len() != 64 {
		t.Errorf("%d at %d", e, at)
	}
	if x, _, e := relabel.Compile(nil); x == nil || e != api.OK || x.Len() != 0 {
		t.Errorf("%d", e)
	}
}

// P33.2.
func TestApply(t *testing.T) {
	five := []api.Rule{set("", "*", "a", "1"), set("", "*", "b", "1"), set("", "*", "c", "1"), set("", "*", "d", "1"), set("", "*", "e", "1")}
	for i, c := range []struct {
		l    []api.Rule
		p    api.Point
		want api.Point
		stop int
		e    api.Errno
	}{
		{nil, with("x", "b", "2", "a", "1"), with("x", "a", "1", "b", "2"), -1, api.OK},
		{nil, with("X"), api.Point{}, -1, api.ErrForm},
		{[]api.Rule{drop("", "*")}, with("X"), api.Point{}, -1, api.ErrForm},

		{[]api.Rule{drop("", "tmp.*")}, with("tmp.x"), api.Point{}, 0, api.OK},
		{[]api.Rule{drop("", "tmp.*")}, with("x"), with("x"), -1, api.OK},
		{[]api.Rule{keep("", "tmp.*")}, with("tmp.x"), with("tmp.x"), -1, api.OK},
		{[]api.Rule{keep("", "*"), keep("", "tmp.*")}, with("x"), api.Point{}, 1, api.OK},
		{[]api.Rule{keep("k", "v")}, with("x", "k", "v"), with("x", "k", "v"), -1, api.OK},
		{[]api.Rule{keep("k", "v")}, with("x"), api.Point{}, 0, api.OK},
		{[]api.Rule{drop("k", "")}, with("x"), api.Point{}, 0, api.OK},
		{[]api.Rule{drop("k", "")}, with("x", "k", "v"), with("x", "k", "v"), -1, api.OK},

		{[]api.Rule{set("", "*", "env", "prod")}, with("x", "z", "1"), with("x", "env", "prod", "z", "1"), -1, api.OK},
		{[]api.Rule{set("", "*", "env", "prod")}, with("x", "env", "dev"), with("x", "env", "prod"), -1, api.OK},
		{[]api.Rule{set("k", "v", "k", "w")}, with("x", "k", "v"), with("x", "k", "w"), -1, api.OK},
		{[]api.Rule{set("k", "v", "k", "w")}, with("x", "k", "u"), with("x", "k", "u"), -1, api.OK},
		{[]api.Rule{set("k", "", "k", "w")}, with("x"), with("x", "k", "w"), -1, api.OK},

		{[]api.Rule{rename("k", "*", "l")}, with("x", "k", "v"), with("x", "l", "v"), -1, api.OK},
		{[]api.Rule{rename("k", "*", "l")}, with("x", "k", "v", "l", "w"), with("x", "l", "v"), -1, api.OK},
		{[]api.Rule{rename("k", "*", "l")}, with("x", "l", "w"), with("x", "l", "w"), -1, api.OK},
		{[]api.Rule{rename("k", "u", "l")}, with("x", "k", "v"), with("x", "k", "v"), -1, api.OK},
		{[]api.Rule{rename("k", "*", "k")}, with("x", "k", "v"), with("x", "k", "v"), -1, api.OK},
		{[]api.Rule{rename("k", "", "l")}, with("x", "l", "v"), with("x", "l", "v"), -1, api.OK},

		{[]api.Rule{forget("k*")}, with("x", "k", "v", "kk", "v", "l", "v"), with("x", "l", "v"), -1, api.OK},
		{[]api.Rule{forget("*")}, with("x", "k", "v"), with("x"), -1, api.OK},
		{five[:4], with("x"), with("x", "a", "1", "b", "1", "c", "1", "d", "1"), -1, api.OK},
		{five, with("x"), api.Point{}, -1, api.ErrLarge},
		{append(slices.Clone(five), forget("c")), with("x"), with("x", "a", "1", "b", "1", "d", "1", "e", "1"), -1, api.OK},
		{append(slices.Clone(five), drop("e", "1")), with("x"), api.Point{}, 5, api.OK},

		{[]api.Rule{set("", "*", "k", "v"), drop("k", "v"), set("", "*", "k", "w")}, with("x"), api.Point{}, 1, api.OK},
	} {
		x, _, e := relabel.Compile(c.l)
		if e != api.OK {
			t.Fatalf("%d: %d", i, e)
		}
		p, kept, e := x.Apply(c.p)
		if e != c.e || kept != (e == api.OK && c.stop < 0) || !point.Same(p, c.want) || !slices.IsSortedFunc(p.Attrs, func(a, b api.Pair) int { return strings.Compare(a.Key, b.Key) }) {
			t.Errorf("%d: %v %v %d", i, p, kept, e)
		}
		if s := x.Stop(c.p); s != c.stop {
			t.Errorf("%d: stops at %d", i, s)
		}
	}
}

// P33.3: in two parts, rules come to the same.
func TestParts(t *testing.T) {
	rnd := rand.New(rand.NewSource(1))
	keys, globs := []string{"k", "l", "m"}, []string{"*", "", "v", "[uv]", "k"}
	someRule := func() api.Rule {
		k, l, g := keys[rnd.Intn(3)], keys[rnd.Intn(3)], globs[rnd.Intn(5)]
		return []api.Rule{keep(k, "*"), drop(k, g), set(k, g, l, "v"), rename(k, g, l), forget(g)}[rnd.Intn(5)]
	}
	for range 3000 {
		var l []api.Rule
		for range rnd.Intn(6) {
			l = append(l, someRule())
		}
		p := with("x", "l", "u")
		if rnd.Intn(2) == 0 {
			p = with("x", "m", "v", "k", "u")
		}
		cut := rnd.Intn(len(l) + 1)
		all, _, _ := relabel.Compile(l)
		a, _, _ := relabel.Compile(l[:cut])
		b, _, _ := relabel.Compile(l[cut:])
		want, kept, _ := all.Apply(p)
		q, k, _ := a.Apply(p)
		if k {
			q, k, _ = b.Apply(q)
		}
		if k != kept || !point.Same(q, want) || kept && (q.Re != p.Re || q.Time != p.Time || q.Flags != p.Flags) {
			t.Fatalf("%v: %v, not %v", l, q, want)
		}
	}
	p := with("x", "k", "v", "l", "w")
	rules := []api.Rule{set("", "*", "k", "z"), forget("l")}
	x, _, _ := relabel.Compile(rules)
	rules[0].Val = "y"
	q, _, _ := x.Apply(p)
	q.Attrs[0].Key = "q"
	if !point.Same(p, with("x", "k", "v", "l", "w")) || q.Attrs[0].Val != "z" {
		t.Error("memory is shared")
	}
}
