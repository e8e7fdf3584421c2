package conf_test

import (
	"math/rand"
	"slices"
	"strings"
	"testing"

	"limnograph/api"
	"limnograph/conf"
)

// cfg is a right configuration.
func cfg() api.Config {
	return api.Config{Out: api.Delta, Series: 4, Buckets: 20, Points: 100, Bytes: 4096, Disk: 100000, Window: 3}
}

// fields is its lines.
const fields = "out delta\nseries 4\nbuckets 20\npoints 100\nbytes 4096\ndisk 100000\nwindow 3\n"

// rules are some of all kinds, and lines theirs.
func rules() []api.Rule {
	return []api.Rule{
		{Kind: api.Drop, Glob: "tmp.*"},
		{Kind: api.Keep, Key: "k", Glob: ""},
		{Kind: api.Set, Glob: "*", To: "env", Val: "prod"},
		{Kind: api.Set, Key: "k", Glob: "a b", To: "k", Val: "-"},
		{Kind: api.Rename, Key: "k", Glob: `"\\[ab-z]?`, To: "l"},
		{Kind: api.Forget, Glob: `\x22~`},
	}
}

const lines = "drop - \"tmp.*\"\nkeep k \"\"\nset - \"*\" env prod\nset k \"a\\x20b\" k -\nrename k \"\\x22\\x5c\\x5c[ab-z]?\" l\nforget \"\\x5cx22~\"\n"

// P38.1: Line.
func TestLine(t *testing.T) {
	want := strings.Split(lines, "\n")
	for i, r := range rules() {
		if s, e := conf.Line(r); s != want[i] || e != api.OK {
			t.Errorf("%d: %q %d", i, s, e)
		}
	}
	for i, c := range []struct {
		r api.Rule
		e api.Errno
	}{
		{api.Rule{}, api.ErrKind},
		{api.Rule{Kind: api.Drop, Glob: "["}, api.ErrShort},
		{api.Rule{Kind: api.Drop, Key: "K", Glob: "\x80"}, api.ErrForm},
		{api.Rule{Kind: api.Drop, Glob: "\x1f"}, api.ErrLine},
		{api.Rule{Kind: api.Drop, Glob: "a\x7f"}, api.ErrLine},
		{api.Rule{Kind: api.Drop, Glob: "\n"}, api.ErrLine},
		{api.Rule{Kind: api.Drop, Glob: "\xff"}, api.ErrLine},
		{api.Rule{Kind: api.Drop, Glob: " ~"}, api.OK},
	} {
		if s, e := conf.Line(c.r); e != c.e || (s != "") != (e == api.OK) {
			t.Errorf("%d: %q %d", i, s, e)
		}
	}
}

// P38.1: Print.
func TestPrint(t *testing.T) {
	if s, e := conf.Print(cfg(), rules()); s != fields+lines || e != api.OK {
		t.Errorf("%q %d", s, e)
	}
	asIs := cfg()
	asIs.Out = api.AsIs
	if s, e := conf.Print(asIs, nil); s != strings.Replace(fields, "delta", "asis", 1) || e != api.OK {
		t.Errorf("%q %d", s, e)
	}
	many := make([]api.Rule, 65)
	for i := range many {
		many[i] = api.Rule{Kind: api.Forget}
	}
	bad := cfg()
	bad.Disk = 0
	for i, c := range []struct {
		cfg api.Config
		l   []api.Rule
		e   api.Errno
	}{
		{bad, many, api.ErrArg},
		{api.Config{}, nil, api.ErrArg},
		{cfg(), many, api.ErrLarge},
		{cfg(), many[1:], api.OK},
		{cfg(), make([]api.Rule, 65), api.ErrLarge},
		{cfg(), []api.Rule{{Kind: api.Forget, Glob: "\n"}, {}}, api.ErrLine},
		{cfg(), []api.Rule{{Kind: api.Forget, Glob: "a"}, {}}, api.ErrKind},
	} {
		if s, e := conf.Print(c.cfg, c.l); e != c.e || (s != "") != (e == api.OK) {
			t.Errorf("%d: %d", i, e)
		}
	}
}

// P38.2.
func TestParse(t *testing.T) {
	without := func(word string) string {
		var l []string
		for _, s := range strings.SplitAfter(fields, "\n") {
			if !strings.HasPrefix(s, word) {
				l = append(l, s)
			}
		}
		return strings.Join(l, "")
	}
	for i, c := range []struct {
		s    string
		line int
		e    api.Errno
	}{
		{fields, 0, api.OK},
		{fields + lines, 0, api.OK},
		{lines + fields, 0, api.OK},
		{"# a\n\n" + fields, 0, api.OK},
		{"", 0, api.ErrNone},
		{"\n#\n", 2, api.ErrNone},
		{fields + "#", 7, api.ErrShort},
		{fields[:len(fields)-1], 6, api.ErrShort},
		{"x", 0, api.ErrShort},
		{"x\n", 0, api.ErrLine},
		{" \n", 0, api.ErrLine},
		{fields + "out delta\n", 7, api.ErrThere},
		{fields + "out x\n", 7, api.ErrLine},
		{fields + "series 4\n", 7, api.ErrThere},
		{fields + "series 04\n", 7, api.ErrLine},

		{"out\n", 0, api.ErrLine},
		{"out 2\n", 0, api.ErrLine},
		{"out Delta\n", 0, api.ErrLine},
		{"out delta \n", 0, api.ErrLine},
		{"out  delta\n", 0, api.ErrLine},
		{" out delta\n", 0, api.ErrLine},
		{"series 04\n", 0, api.ErrLine},
		{"series -4\n", 0, api.ErrLine},
		{"series +4\n", 0, api.ErrLine},
		{"series x\n", 0, api.ErrLine},
		{"series 4 5\n", 0, api.ErrLine},
		{"series 4503599627370497\n", 0, api.ErrLine},
		{"series 4503599627370496\n", 1, api.ErrNone},
		{"series 0\n", 1, api.ErrNone},
		{"series 99999999999999999999\n", 0, api.ErrLine},
		{"Series 4\n", 0, api.ErrLine},

		{without("out"), 6, api.ErrNone},
		{without("series"), 6, api.ErrNone},
		{without("buckets"), 6, api.ErrNone},
		{without("points"), 6, api.ErrNone},
		{without("bytes"), 6, api.ErrNone},
		{without("disk"), 6, api.ErrNone},
		{without("window"), 6, api.ErrNone},
		{without("disk") + "disk 0\n", 7, api.ErrArg},
		{without("bytes") + "\nbytes 64\n", 8, api.ErrArg},
		{without("out") + "out cumul\n", 0, api.OK},

		{"keep\n", 0, api.ErrLine},
		{"keep -\n", 0, api.ErrLine},
		{"keep - a\n", 0, api.ErrLine},
		{"keep - \"\n", 0, api.ErrLine},
		{"keep - \"a\n", 0, api.ErrLine},
		{"keep - a\"\n", 0, api.ErrLine},
		{"keep - \"a\" b\n", 0, api.ErrLine},
		{"keep - \"a b\"\n", 0, api.ErrLine},
		{"keep - \"a\"b\"\n", 0, api.ErrLine},
		{"keep - \"\\\"\n", 0, api.ErrLine},
		{"keep - \"\\a\"\n", 0, api.ErrLine},
		{"keep - \"\\x21\"\n", 0, api.ErrLine},
		{"keep - \"\\x2\"\n", 0, api.ErrLine},
		{"keep - \"\\x5C\"\n", 0, api.ErrLine},
		{"keep - \"\\x5c\"\n", 0, api.ErrShort},
		{"keep - \"\\x5ca\"\n", 1, api.ErrNone},

		{"keep K \"[\"\n", 0, api.ErrShort},
		{"keep K \"a\"\n", 0, api.ErrForm},
		{"set - \"a\" k\n", 0, api.ErrLine},
		{"set - \"a\" k v w\n", 0, api.ErrLine},
		{"set - \"a\" k v\n", 1, api.ErrNone},
		{"set - \"a\" - v\n", 0, api.ErrForm},
		{"set - \"a\" k a=b\n", 0, api.ErrForm},
		{"rename - \"a\" k\n", 0, api.ErrForm},
		{"rename k \"a\" -\n", 0, api.ErrForm},
		{"rename k \"a\"\n", 0, api.ErrLine},
		{"forget - \"a\"\n", 0, api.ErrLine},
		{"forget \"a\"\n", 1, api.ErrNone},
		{"forget\n", 0, api.ErrLine},
		{"Keep - \"a\"\n", 0, api.ErrLine},

		{strings.Repeat("forget \"\"\n", 64) + fields, 0, api.OK},
		{strings.Repeat("forget \"\"\n", 65), 64, api.ErrLarge},
		{strings.Repeat("forget \"\"\n", 64) + "forget \"[\"\n", 64, api.ErrShort},
		{strings.Repeat("forget \"\"\n", 64) + "forget\n", 64, api.ErrLine},
	} {
		x, l, line, e := conf.Parse(c.s)
		if line != c.line || e != c.e || e != api.OK && (x != api.Config{} || l != nil) {
			t.Errorf("%d, %q: %d at %d", i, c.s, e, line)
		}
	}
}

// P38.3.
func TestRoundTrip(t *testing.T) {
	x, l, _, e := conf.Parse(fields + lines)
	if x != cfg() || !slices.Equal(l, rules()) || e != api.OK {
		t.Errorf("%v %v %d", x, l, e)
	}
	rnd := rand.New(rand.NewSource(1))
	for range 3000 {
		var l []api.Rule
		for range rnd.Intn(5) {
			b := make([]byte, rnd.Intn(12))
			for i := range b {
				b[i] = " \"\\x5c20*?[]ab-!~"[rnd.Intn(17)]
			}
			r := api.Rule{Kind: 1 + rnd.Intn(5), Key: []string{"", "k"}[rnd.Intn(2)], Glob: string(b)}
			switch r.Kind {
			case api.Set:
				r.To, r.Val = "t", "\"\\x20"
			case api.Rename:
				r.Key, r.To = "k", "t"
			case api.Forget:
				r.Key = ""
			}
			if s, e := conf.Line(r); e == api.OK && s != "" {
				l = append(l, r)
			}
		}
		c := cfg()
		c.Out, c.Disk = rnd.Intn(3), 1+rnd.Intn(api.MaxDisk)
		s, e := conf.Print(c, l)
		x, got, line, f := conf.Parse(s)
		if e != api.OK || f != api.OK || x != c || line != 0 || !slices.Equal(got, l) {
			t.Fatalf("%q: %v %v", s, x, got)
		}
	}
}
