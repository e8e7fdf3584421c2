package glob_test

import (
	"math/rand"
	"strings"
	"testing"

	"limnograph/api"
	"limnograph/glob"
)

// P32.1.
func TestCompile(t *testing.T) {
	for _, c := range []struct {
		s  string
		at int
		e  api.Errno
	}{
		{"", 0, api.OK},
		{"a*b?", 0, api.OK},
		{strings.Repeat("*", 64), 0, api.OK},
		{strings.Repeat("[", 65), 64, api.ErrLarge},
		{strings.Repeat("\\", 64), 0, api.OK},
		{"[]", 0, api.ErrForm},
		{"[b-a]", 1, api.ErrForm},
		{"a\\", 1, api.ErrShort},
		{"\\", 0, api.ErrShort},
		{"a\\\\", 0, api.OK},
		{"[", 0, api.ErrShort},
		{"ab[", 2, api.ErrShort},
		{"a[b", 1, api.ErrShort},
		{"[!", 0, api.ErrShort},
		{"[!]", 0, api.ErrForm},
		{"x[!]", 1, api.ErrForm},

		{"[\\]", 0, api.ErrShort},
		{"[\\]]", 0, api.OK},
		{"[a\\", 0, api.ErrShort},
		{"[]a]", 0, api.ErrForm},
		{"]", 0, api.OK},
		{"[a]]", 0, api.OK},
		{"[[]", 0, api.OK},
		{"[-]", 0, api.OK},
		{"[a-]", 0, api.OK},
		{"[-a]", 1, api.ErrForm},
		{"[!-a]", 2, api.ErrForm},
		{"[!-]", 0, api.OK},
		{"[--]", 1, api.ErrForm},
		{"[---]", 1, api.ErrForm},
		{"[a--]", 2, api.ErrForm},
		{"[a-b-c]", 4, api.ErrForm},
		{"[a-b-]", 0, api.OK},

		{"[a-a]", 0, api.OK},
		{"[xb-a]", 2, api.ErrForm},
		{"[x\\b-a]", 2, api.ErrForm},
		{"[x\\b-\\a]", 2, api.ErrForm},
		{"[\\--a]", 0, api.OK},
		{"[a-\\]]", 1, api.ErrForm},
		{"[A-\\]]", 0, api.OK},
		{"[b-a][", 1, api.ErrForm},
		{"[b-a", 0, api.ErrShort},
		{"[a][b-a]\\", 4, api.ErrForm},
		{"[a-\\-]", 1, api.ErrForm},
		{"[*?]", 0, api.OK},
		{"-", 0, api.OK},
		{"!", 0, api.OK},
	} {
		g, at, e := glob.Compile(c.s)
		if at != c.at || e != c.e || (g != nil) != (e == api.OK) {
			t.Errorf("%q: %d at %d", c.s, e, at)
		}
		if g != nil && g.Text() != c.s {
			t.Errorf("%q: %q", c.s, g.Text())
		}
	}
}

// P32.2: Match.
func TestMatch(t *testing.T) {
	for _, c := range []struct{ pattern, yes, no string }{
		{"", "", "a"},
		{"a*b?", "axxbc abc abbb", "ab a abcd xabc"},
		{"[a-c!]x", "!x ax cx", "dx x -x"},
		{"*", "a abc *", ""},
		{"**", "a abc", ""},
		{"?", "a *", "ab"},
		{"[!a-c]", "d ! -", "a b c dd"},
		{"[a-]", "a -", "b"},
		{"[!-]", "a", "-"},
		{"\\*", "*", "a \\*"},
		{"\\a", "a", "\\a"},
		{"a]b", "a]b", "ab"},
		{"[\\]]", "]", "\\"},
		{"[\\\\]", "\\", "]"},

		{"*a*b*", "ab xaxbx aabb", "ba a b"},
		{"*ab", "ab abab aab", "aba"},
		{"a*a", "aa aba aaa", "a ab"},
		{"*?*", "a ab", ""},
		{"[a-b-]", "a b -", "c"},
		{"a?*c", "abc abbc abcc", "ac ab"},
		{"*[0-9]", "a1 1 11", "a 1a"},
		{"[A-\\]]", "A Z [ \\ ]", "^ a"},
	} {
		g, _, e := glob.Compile(c.pattern)
		if e != api.OK {
			t.Fatalf("%q: %d", c.pattern, e)
		}
		for _, s := range strings.Split(c.yes, " ") {
			if !g.Match(s) {
				t.Errorf("%q doesn't match %q", c.pattern, s)
			}
		}
		if c.no == "" {
			continue
		}
		for _, s := range strings.Split(c.no, " ") {
			if g.Match(s) {
				t.Errorf("%q matches %q", c.pattern, s)
			}
		}
	}
	g, _, _ := glob.Compile("[\x00-\x1f\x80-\xff]")
	h, _, _ := glob.Compile("?")
	for c := range 256 {
		s := string([]byte{byte(c)})
		if g.Match(s) != (c < 0x20 || c >= 0x80) || !h.Match(s) {
			t.Errorf("%x", c)
		}
	}
}

// slow tells by trying all ways whether pieces of a pattern match a text.
func slow(l []string, s string) bool {
	if len(l) == 0 {
		return s == ""
	}
	if l[0] == "*" {
		return slow(l[1:], s) || s != "" && slow(l, s[1:])
	}
	if s == "" {
		return false
	}
	holds := false
	switch l[0] {
	case "?":
		holds = true
	case "[ab]":
		holds = s[0] == 'a' || s[0] == 'b'
	case "[!b]":
		holds = s[0] != 'b'
	default:
		holds = s[0] == l[0][len(l[0])-1]
	}
	return holds && slow(l[1:], s[1:])
}

// P32.2: against all ways.
func TestModel(t *testing.T) {
	rnd := rand.New(rand.NewSource(1))
	yes := 0
	for range 20000 {
		var p []string
		s := ""
		for range rnd.Intn(7) {
			p = append(p, []string{"*", "?", "a", "b", "[ab]", "[!b]", "\\a"}[rnd.Intn(7)])
		}
		for range rnd.Intn(8) {
			s += []string{"a", "b", "c"}[rnd.Intn(3)]
		}
		g, _, _ := glob.Compile(strings.Join(p, ""))
		if g.Match(s) != slow(p, s) {
			t.Fatalf("%q, %q: %v", p, s, g.Match(s))
		}
		if g.Match(s) {
			yes++
		}
	}
	if yes < 1000 {
		t.Errorf("%d", yes)
	}
	g, _, _ := glob.Compile(strings.Repeat("*a", 31))
	if g.Match(strings.Repeat("a", 5000)+"b") || !g.Match(strings.Repeat("a", 5000)) {
		t.Error("of a long text")
	}
}

// P32.2: Plain; P32.3: Quote.
func TestPlainQuote(t *testing.T) {
	for _, c := range []struct {
		pattern, s string
		ok         bool
	}{{"", "", true}, {"ab", "ab", true}, {"a\\*b\\\\\\x", "a*b\\x", true}, {"a*", "", false}, {"?", "", false}, {"[a]", "", false}, {"]-", "]-", true}} {
		g, _, _ := glob.Compile(c.pattern)
		if s, ok := g.Plain(); s != c.s || ok != c.ok {
			t.Errorf("%q: %q %v", c.pattern, s, ok)
		}
	}
	if glob.Quote("a*?[]\\b-!") != "a\\*\\?\\[\\]\\\\b-!" || glob.Quote("") != "" {
		t.Errorf("%q", glob.Quote("a*?[]\\b-!"))
	}
	rnd := rand.New(rand.NewSource(2))
	for range 2000 {
		b := make([]byte, rnd.Intn(32))
		for i := range b {
			b[i] = "*?[]\\ab-!\x00\xff"[rnd.Intn(11)]
		}
		s := string(b)
		g, _, e := glob.Compile(glob.Quote(s))
		if e != api.OK {
			t.Fatalf("%q: %d", s, e)
		}
		if p, ok := g.Plain(); p != s || !ok || !g.Match(s) || g.Match(s+"a") || s != "" && g.Match(s[1:]) {
			t.Fatalf("%q: %q", s, p)
		}
	}
}
