package wal_test

import (
	"bytes"
	"math/rand"
	"strings"
	"testing"

	"limnograph/api"
	"limnograph/disk"
	"limnograph/frame"
	"limnograph/wal"
)

// frames is the frames of texts.
func frames(l ...string) []byte {
	var b []byte
	for _, s := range l {
		x, _ := frame.Wrap([]byte(s))
		b = append(b, x...)
	}
	return b
}

// texts is records as one text.
func texts(l [][]byte) string {
	return string(bytes.Join(l, []byte("|")))
}

// P19.1.
func TestRecords(t *testing.T) {
	good := frames("ab", "", "c")
	for i, c := range []struct {
		b    []byte
		l    string
		n    int
		used int
		e    api.Errno
	}{
		{nil, "", 0, 0, api.OK},
		{good, "ab||c", 3, len(good), api.OK},
		{append(bytes.Clone(good), 0xa5), "ab||c", 3, len(good), api.OK},
		{append(bytes.Clone(good), good[:10]...), "ab||c", 3, len(good), api.OK},
		{good[:len(good)-1], "ab|", 2, len(good) - 10, api.OK},

		{append(bytes.Clone(good), 0), "", 0, 0, api.ErrBroken},
		{[]byte{0}, "", 0, 0, api.ErrBroken},
		{append(bytes.Clone(good), 0xa5, 0, 0, 2, 0, 0, 0, 0, 0), "", 0, 0, api.ErrBroken},
		{append(bytes.Clone(good), 0xa5, 0, 0, 0, 0, 1, 0, 0, 0), "", 0, 0, api.ErrBroken},
	} {
		l, used, e := wal.Records(c.b)
		if texts(l) != c.l || len(l) != c.n || used != c.used || e != c.e {
			t.Errorf("%d: %q %d %d", i, l, used, e)
		}
	}
}

// P19.2.
func TestOpen(t *testing.T) {
	good := frames("ab", "c")
	d := disk.New([]api.File{{Name: "l", Data: append(bytes.Clone(good), 0xa5, 1)}, {Name: "bad", Data: []byte("bad")}}, 200)
	l, records, e := wal.Open(d, "l")
	if e != api.OK || texts(records) != "ab|c" || l.Len() != 2 || l.Size() != len(good) || l.Name() != "l" || d.Used() != len(good)+3 || d.Calls() != 1 {
		t.Errorf("%q %d", records, e)
	}
	if l, records, e := wal.Open(d, "bad"); l != nil || records != nil || e != api.ErrBroken || d.Used() != len(good)+3 {
		t.Errorf("%d", e)
	}
	if l, records, e := wal.Open(d, "Bad"); l != nil || records != nil || e != api.ErrForm {
		t.Errorf("%d", e)
	}
	l, records, e = wal.Open(d, "new")
	if e != api.OK || len(records) != 0 || l.Len() != 0 || l.Size() != 0 || len(d.Names()) != 3 {
		t.Errorf("%d", e)
	}
	d.Fail(0, 77)
	if l, _, e := wal.Open(d, "newer"); l != nil || e != 77 {
		t.Errorf("%d", e)
	}
	d.Append("l", []byte{0xa5})
	d.Fail(0, 78)
	if l, records, e := wal.Open(d, "l"); l != nil || records != nil || e != 78 {
		t.Errorf("%d", e)
	}
	d.Crash(0)
	d.Sync("l")
	for _, name := range []string{"l", "bad", "none"} {
		if l, _, e := wal.Open(d, name); l != nil || e != api.ErrDown {
			t.Errorf("%q: %d", name, e)
		}
	}
}

// P19.3.
func TestAppend(t *testing.T) {
	d := disk.New(nil, 100)
	l, _, _ := wal.Open(d, "l")
	if e := l.Append(make([]byte, api.MaxPayload+1)); e != api.ErrLarge {
		t.Errorf("%d", e)
	}
	if l.Append([]byte("ab")) != api.OK || l.Sync() != api.OK || l.Append(nil) != api.OK || l.Len() != 2 || l.Size() != 20 {
		t.Error("Append")
	}
	if n, sure, _ := d.Size("l"); n != 20 || sure != 11 {
		t.Errorf("%d %d", n, sure)
	}
	if e := l.Append(make([]byte, 72)); e != api.ErrSpace || l.Len() != 2 || l.Size() != 20 || d.Used() != 20 {
		t.Errorf("%d", e)
	}
	d.Fail(0, 77)
	if e := l.Sync(); e != 77 {
		t.Errorf("%d", e)
	}
	d.Crash(0)
	if l.Append(nil) != api.ErrDown || l.Sync() != api.ErrDown || l.Len() != 2 || l.Size() != 20 || l.Name() != "l" {
		t.Error("with the power gone")
	}
}

// P19.4: behind a crash there is a beginning of the records, with all that were sure.
func TestCrash(t *testing.T) {
	rnd := rand.New(rand.NewSource(1))
	for range 500 {
		d := disk.New(nil, 10000)
		var all []string
		sure := 0
		for range 4 {
			l, records, e := wal.Open(d, "l")
			if e != api.OK || len(records) < sure || len(records) > len(all) {
				t.Fatalf("%q of %q: %d", records, all, e)
			}
			for i, r := range records {
				if string(r) != all[i] {
					t.Fatalf("%q of %q", records, all)
				}
			}
			all = all[:len(records)]
			sure = len(all)
			for range rnd.Intn(10) {
				s := strings.Repeat("r", rnd.Intn(20))
				l.Append([]byte(s))
				all = append(all, s)
				if rnd.Intn(4) == 0 {
					l.Sync()
					sure = len(all)
				}
			}
			d.Crash(0)
			l.Append([]byte("gone"))
			d.Boot([]int{rnd.Intn(150)})
		}
	}
}

// P19.4: memory.
func TestMemory(t *testing.T) {
	d := disk.New(nil, 100)
	l, _, _ := wal.Open(d, "l")
	in := []byte("ab")
	l.Append(in)
	l.Append(in)
	in[0] = 'x'
	_, records, _ := wal.Open(d, "l")
	records[0][0] = 'y'
	if _, again, _ := wal.Open(d, "l"); texts(again) != "ab|ab" || texts(records) != "yb|ab" {
		t.Errorf("%q", again)
	}
}
