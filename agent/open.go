package agent

import (
	"strconv"
	"strings"

	"limnograph/api"
	"limnograph/convert"
	"limnograph/disk"
	"limnograph/pack"
	"limnograph/point"
	"limnograph/ship"
	"limnograph/snap"
	"limnograph/store"
	"limnograph/wal"
)

const (
	meta  = "meta" // the snapshot's name
	ahead = "wal-" // stands ahead of a generation in a log's name
)

// nameOf is the name of a generation's log.
func nameOf(generation int) string {
	return ahead + strconv.Itoa(generation)
}

// isLog tells whether that is the name of some generation's log.
func isLog(name string) bool {
	n, err := strconv.Atoi(strings.TrimPrefix(name, ahead))
	return err == nil && n >= 0 && n <= api.MaxOrd && nameOf(n) == name
}

// following is the next generation.
func following(generation int) int {
	if generation >= api.MaxOrd {
		return 0
	}
	return generation + 1
}

// Open is the agent that a disk has.
func Open(cfg api.Config, d *disk.Disk) (*Agent, api.Errno) {
	if !Good(cfg) {
		return nil, api.ErrArg
	}
	if d.Down() {
		return nil, api.ErrDown
	}
	a := &Agent{cfg: cfg, d: d, conv: convert.New(cfg)}
	for _, step := range []func() api.Errno{a.openMeta, a.openSender, a.openStore, a.openLog, a.removeLogs} {
		if e := step(); e != api.OK {
			return nil, e
		}
	}
	return a, api.OK
}

// openMeta takes what the snapshot tells.
func (a *Agent) openMeta() api.Errno {
	b, there, e := snap.Load(a.d, meta)
	if !there {
		return e
	}
	r := pack.NewReader(b)
	a.sealed = r.Count(api.MaxOrd + 1)
	a.generation = r.Count(api.MaxOrd)
	saved := r.Text(len(b))
	if r.Done() != api.OK {
		return api.ErrBroken
	}
	conv, e := convert.Load(a.cfg, []byte(saved))
	if e != api.OK {
		return api.ErrBroken
	}
	a.conv = conv
	return api.OK
}

// openSender takes what was acknowledged.
func (a *Agent) openSender() api.Errno {
	sender, e := ship.Open(a.d)
	if e != api.OK {
		return e
	}
	if sender.Ack() > a.sealed {
		return api.ErrBroken
	}
	a.sender = sender
	return api.OK
}

// openStore takes the segments.
func (a *Agent) openStore() api.Errno {
	s, e := store.Open(a.d, a.sender.Ack(), a.sealed)
	a.store = s
	return e
}

// openLog takes what was accepted since.
func (a *Agent) openLog() api.Errno {
	log, records, e := wal.Open(a.d, nameOf(a.generation))
	if e != api.OK {
		return e
	}
	a.log = log
	for _, record := range records {
		if !a.accept(record) {
			return api.ErrBroken
		}
	}
	return api.OK
}

// accept takes a log's point again, if an agent can have accepted it.
func (a *Agent) accept(record []byte) bool {
	p, e := point.Read(record)
	if e != api.OK {
		return false
	}
	made, e := a.conv.Take(p)
	if e != api.OK || a.Next() > api.MaxOrd || !a.hasRoom(made) {
		return false
	}
	a.put(made)
	return true
}

// removeLogs removes the logs of other generations.
func (a *Agent) removeLogs() api.Errno {
	for _, name := range a.d.Names() {
		if !isLog(name) || name == a.log.Name() {
			continue
		}
		if e := a.d.Remove(name); e != api.OK {
			return e
		}
	}
	return api.OK
}
