package restart

import (
	"tidemark/api"
	"tidemark/aries"
	"tidemark/check"
	"tidemark/choose"
	"tidemark/disk"
	"tidemark/look"
	"tidemark/master"
	"tidemark/pair"
	"tidemark/pool"
	"tidemark/room"
	"tidemark/table"
	"tidemark/wal"
)

// recovery is a disk on its way to being right: each pass finds here what those ahead of it have left.
type recovery struct {
	d       *disk.Disk
	shape   api.Shape
	frames  int
	manager int

	state   master.State
	isNamed bool // a master is right: the state is what it says
	pair    []byte
	pages   [][]byte
	log     []byte

	greatest int // of the LSNs of all right pages, and of a right pair's
	found    look.Result
	l        *wal.Log
	p        *pool.Pool
	told     api.Report
}

// sync has all that is loose last: what is looked at from now on is what a crash would leave.
func (r *recovery) sync() api.Errno {
	if e := r.d.SyncLog(); e != api.OK {
		return e
	}
	if e := r.d.Sync(); e != api.OK {
		return e
	}
	return r.d.SyncMasters()
}

// findMaster finds what the newest master says.
func (r *recovery) findMaster() (e api.Errno) {
	r.state, r.isNamed, e = master.Newest(r.d)
	return e
}

// read reads the pair, all pages and the log.
func (r *recovery) read() (e api.Errno) {
	if r.pair, e = r.d.ReadPair(); e != api.OK {
		return e
	}
	for number := range r.shape.Pages {
		b, e := r.d.ReadPage(number)
		if e != api.OK {
			return e
		}
		r.pages = append(r.pages, b)
	}
	r.log, e = r.d.ReadLog(0, r.shape.Log)
	return e
}

// repair takes what a crash has torn out of the pages and the pair.
func (r *recovery) repair() api.Errno {
	_, e := pair.Repair(r.d)
	return e
}

// openLog opens the log, and cuts what is behind its beginning.
func (r *recovery) openLog() (e api.Errno) {
	if r.l, e = wal.Open(r.d, r.state.Base); e != api.OK {
		return e
	}
	return r.l.Trim()
}

func (r *recovery) openPool() (e api.Errno) {
	r.p, e = pool.New(r.d, r.l, r.frames)
	return e
}

// setRight has the manager do again, undo and end what is to be.
func (r *recovery) setRight() (e api.Errno) {
	if r.manager == api.Choose {
		r.told, e = choose.Run(r.l, r.p, r.found)
	} else {
		r.told, e = aries.Run(r.l, r.p, r.found, aries.Plain{})
	}
	return e
}

// beginAnew writes all pages and begins the log anew: nothing is open any more.
func (r *recovery) beginAnew() api.Errno {
	none, e := table.New(api.MaxTable)
	if e != api.OK {
		return e
	}
	return check.New(r.d, r.l, r.p, none, room.New(r.shape.Log), r.state).Renew()
}
