package agent

import (
	"limnograph/api"
	"limnograph/pack"
	"limnograph/segment"
	"limnograph/snap"
	"limnograph/store"
	"limnograph/wal"
)

// seal puts the head, if there is one, into a segment, and begins a new log.
func (a *Agent) seal() api.Errno {
	next, generation := a.Next(), following(a.generation)
	segmentName, logName := store.Name(a.sealed), nameOf(generation)
	var log *wal.Log
	var data []byte
	var e api.Errno
	if len(a.head) == 0 {
		return api.OK
	}
	if e = a.log.Sync(); e != api.OK {
		return e
	}
	if data, e = segment.Encode(a.cfg, a.sealed, a.head); e != api.OK {
		return e
	}
	if e = a.clear(segmentName); e != api.OK {
		goto undo
	}
	if e = a.store.Put(a.sealed, data); e != api.OK {
		goto undo
	}
	if e = a.clear(logName); e != api.OK {
		goto undo
	}
	if log, _, e = wal.Open(a.d, logName); e != api.OK {
		goto undo
	}
	if e = snap.Save(a.d, meta, a.metaOf(next, generation)); e != api.OK {
		goto undo
	}
	a.store.Keep(api.Span{First: a.sealed, End: next})
	// The old log says nothing any more: what its removal answers is no matter, and Open removes it too.
	a.d.Remove(a.log.Name())
	a.log, a.sealed, a.generation, a.head, a.weight = log, next, generation, nil, 0
	return api.OK
undo:
	a.clear(logName)
	a.clear(segmentName)
	return e
}

// clear removes a file, if it is there.
func (a *Agent) clear(name string) api.Errno {
	if _, _, e := a.d.Size(name); e != api.OK {
		return api.OK
	}
	return a.d.Remove(name)
}

// metaOf is what the snapshot of an agent tells that is sealed up to an ordinal.
func (a *Agent) metaOf(sealed, generation int) []byte {
	w := pack.NewWriter()
	w.Num(uint64(sealed))
	w.Num(uint64(generation))
	w.Text(string(a.conv.Save()))
	return w.Bytes()
}
