package script

import (
	"errors"
	"slices"
	"strconv"
	"strings"

	"limnograph/api"
	"limnograph/label"
	"limnograph/point"
)

// fault is what is wrong with a line.
type fault struct {
	line  int
	errno api.Errno
}

// Error tells the line and the number.
func (f fault) Error() string {
	return "line " + strconv.Itoa(f.line) + ": " + f.errno.Error()
}

// Unwrap is the number.
func (f fault) Unwrap() error {
	return f.errno
}

// Parse is the events of a script.
func Parse(s string) (l []api.Event, line int, e api.Errno) {
	l, err := parse(s)
	var f fault
	if errors.As(err, &f) {
		line = f.line
	}
	errors.As(err, &e)
	return l, line, e
}

// parse is the events of a script, or what is wrong with its first line that isn't right.
func parse(s string) ([]api.Event, error) {
	lines := strings.SplitAfter(s, "\n")
	if last := len(lines) - 1; lines[last] == "" {
		lines = lines[:last]
	}
	if len(lines) > api.MaxLines {
		return nil, fault{api.MaxLines, api.ErrLarge}
	}
	var l []api.Event
	for i, line := range lines {
		line, ended := strings.CutSuffix(line, "\n")
		if !ended {
			return nil, fault{i, api.ErrShort}
		}
		if line == "" || line[0] == '#' {
			continue
		}
		e, errno := event(line)
		if errno != api.OK {
			return nil, fault{i, errno}
		}
		l = append(l, e)
	}
	return l, nil
}

// event is the event of a line.
func event(line string) (api.Event, api.Errno) {
	w := &words{l: strings.Split(line, " "), right: true}
	e := api.Event{Kind: w.oneOf(eventWords())}
	text := ""
	switch e.Kind {
	case api.EvIngest:
		text = w.label()
		e.Point = w.point()
	case api.EvDeliver, api.EvDrop, api.EvDouble, api.EvCrash:
		e.N = w.number()
	case api.EvTurn:
		e.N = w.number()
		e.K = w.number()
	case api.EvFail:
		e.N = w.number()
		e.Code = api.Errno(w.number())
	case api.EvBoot:
		for len(w.l) > 0 {
			e.Keep = append(e.Keep, w.number())
		}
	}
	if !w.right || len(w.l) > 0 {
		return api.Event{}, api.ErrLine
	}
	if e.Kind != api.EvIngest {
		return e, api.OK
	}
	name, attrs, _, errno := label.Parse(text)
	if errno != api.OK {
		return api.Event{}, errno
	}
	e.Point.Name, e.Point.Attrs = name, attrs
	return e, point.Check(e.Point)
}

// words are what is left of a line, and whether all words that were taken are right.
type words struct {
	l     []string
	right bool
}

// next takes a word.
func (w *words) next() string {
	if len(w.l) == 0 || w.l[0] == "" {
		w.right = false
		w.l = nil
		return ""
	}
	s := w.l[0]
	w.l = w.l[1:]
	return s
}

// label takes the word of a label; be it empty, that is for the label to tell.
func (w *words) label() string {
	if len(w.l) > 0 && w.l[0] == "" {
		w.l = w.l[1:]
		return ""
	}
	return w.next()
}

// oneOf takes a word that is one of some, and tells its place.
func (w *words) oneOf(l []string) int {
	i := slices.Index(l, w.next())
	w.right = w.right && i >= 0
	return i
}

// number takes a number.
func (w *words) number() int {
	v, ok := number(w.next())
	w.right = w.right && ok
	return v
}

// count takes a number from 0 on.
func (w *words) count() uint64 {
	v, ok := count(w.next())
	w.right = w.right && ok
	return v
}

// float takes the bits of a float.
func (w *words) float() uint64 {
	s := w.next()
	v, err := strconv.ParseUint(s, 16, 64)
	w.right = w.right && err == nil && hex(v) == s
	return v
}

// side takes a side.
func (w *words) side() api.Side {
	s := w.next()
	if s == noCounts {
		return api.Side{}
	}
	offset, counts, ok := strings.Cut(s, ":")
	v, isNumber := number(offset)
	w.right = w.right && ok && isNumber
	side := api.Side{Offset: v}
	for _, c := range strings.Split(counts, ",") {
		n, ok := count(c)
		w.right = w.right && ok
		side.Counts = append(side.Counts, n)
	}
	return side
}

// point takes a point, without its label.
func (w *words) point() api.Point {
	p := api.Point{Kind: w.oneOf(kindWords()), Temp: w.oneOf(tempWords())}
	p.Mono = w.oneOf([]string{anyWay, mono}) == 1
	p.Start = w.number()
	p.Time = w.number()
	switch p.Kind {
	case api.IntSum:
		p.Int = w.number()
	case api.FloatSum, api.Gauge:
		p.Re = w.float()
	case api.Phasor:
		p.Re = w.float()
		p.Im = w.float()
	case api.Histo:
		p.Hist.Scale = w.number()
		p.Hist.Zero = w.count()
		p.Hist.Pos = w.side()
		p.Hist.Neg = w.side()
	}
	return p
}

// number is the number that a word tells.
func number(s string) (int, bool) {
	v, err := strconv.Atoi(s)
	if err != nil || strconv.Itoa(v) != s {
		return 0, false
	}
	return v, true
}

// count is the number from 0 on that a word tells.
func count(s string) (uint64, bool) {
	v, err := strconv.ParseUint(s, 10, 64)
	if err != nil || decimal(v) != s {
		return 0, false
	}
	return v, true
}
