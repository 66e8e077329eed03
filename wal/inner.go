package wal

import (
	"iter"

	"tidemark/api"
	"tidemark/scan"
)

// What stands here is called while the Mutex is held, but for asItIs, which holds it itself.

func mayBe(base int) bool { return base >= 0 && base <= mostBase }

func (l *Log) end() int { return l.base + len(l.frames) + 1 }

func (l *Log) flushed() int { return l.base + l.onDisk + 1 }

// asItIs gives the records that there are now; what is appended later, or begun anew, is not seen in them.
func (l *Log) asItIs() iter.Seq2[int, api.Record] {
	l.mutex.Lock()
	defer l.mutex.Unlock()
	return scan.Each(l.frames, l.base) // it goes by a copy
}

// cutBehind takes away what is behind, if there is something.
func (l *Log) cutBehind() api.Errno {
	if l.d.LogLen() <= l.onDisk {
		return api.OK
	}
	return l.met(l.d.Cut(l.onDisk))
}

// bring writes what is in memory behind the frames that are on the disk, and makes it last.
func (l *Log) bring() api.Errno {
	if e := l.met(l.d.Append(l.frames[l.onDisk:])); e != api.OK {
		return e
	}
	if e := l.met(l.d.SyncLog()); e != api.OK {
		return e
	}
	l.onDisk = len(l.frames)
	return api.OK
}

// met hands an act's answer on, and marks that this log has met ErrDead.
func (l *Log) met(e api.Errno) api.Errno {
	if e == api.ErrDead {
		l.dead = true
	}
	return e
}
