package aries

import (
	"slices"

	"tidemark/api"
	"tidemark/look"
	"tidemark/pool"
	"tidemark/wal"
)

// recovery is one log's pages on their way to what its winners left there.
type recovery struct {
	l *wal.Log
	p *pool.Pool
	s Steps

	lasts map[int]int // by the birth of a row: its last record's LSN, as far as it came
	told  api.Report
}

// update is one that is to be undone; next is the LSN of the one that follows of its transaction, 0 where there is none.
type update struct {
	lsn  int
	r    api.Record
	next int
}

func newRecovery(l *wal.Log, p *pool.Pool, found look.Result, s Steps) *recovery {
	r := &recovery{l: l, p: p, s: s, lasts: map[int]int{}}
	r.told.Winners = slices.Clone(found.Winners)
	for _, row := range found.Rows {
		r.lasts[row.Birth] = row.Last
		if row.State != api.SCommitted {
			r.told.Losers = append(r.told.Losers, row.Birth)
		}
	}
	return r
}

// redo goes through the log from an LSN on, and lays what the pages lack.
func (r *recovery) redo(from int) api.Errno {
records:
	for lsn, x := range r.l.All() {
		switch x.Kind {
		case api.KUpdate, api.KUndo:
			if lsn < from {
				continue records
			}
		default:
			continue records
		}
		if e := r.redoOne(lsn, x); e != api.OK {
			return e
		}
	}
	return api.OK
}

func (r *recovery) redoOne(lsn int, x api.Record) api.Errno {
	return r.onPage(x.Page, func(was []byte, at int) api.Errno {
		isLaid, e := ask(func() bool { return r.s.Redo(lsn, own(x), at) })
		if e != api.OK || !isLaid {
			return e
		}
		if e := r.lay(x, was, x.After, lsn); e != api.OK {
			return e
		}
		r.told.Redone++
		return api.OK
	})
}

// undo takes back the updates that have these LSNs, one after the other.
func (r *recovery) undo(lsns []int) api.Errno {
	updates, e := r.updatesAt(lsns)
	if e != api.OK {
		return e
	}
	for _, u := range updates {
		if e := r.undoOne(u); e != api.OK {
			return e
		}
	}
	return api.OK
}

// updatesAt reads the updates that have these LSNs.
func (r *recovery) updatesAt(lsns []int) ([]update, api.Errno) {
	updates := make([]update, len(lsns))
	nexts := map[int]int{} // by birth
	// From the last one on: so what follows each of them is known when it is read.
	for i := len(lsns) - 1; i >= 0; i-- {
		x, e := r.l.Read(lsns[i])
		if e != api.OK {
			return nil, e
		}
		updates[i] = update{lsn: lsns[i], r: x, next: nexts[x.Birth]}
		nexts[x.Birth] = lsns[i]
	}
	return updates, api.OK
}

func (r *recovery) undoOne(u update) api.Errno {
	return r.onPage(u.r.Page, func(was []byte, at int) api.Errno {
		// The record is written even where nothing is laid: the log must say that this update is undone.
		c, e := r.log(api.Record{Kind: api.KUndo, Birth: u.r.Birth, Page: u.r.Page, From: u.r.From, After: u.r.Before, Next: u.next})
		if e != api.OK {
			return e
		}
		isLaid, e := ask(func() bool { return r.s.Lay(u.lsn, own(u.r), at) })
		if e != api.OK {
			return e
		}
		if isLaid {
			if e := r.lay(u.r, was, u.r.Before, c); e != api.OK {
				return e
			}
		}
		r.told.Undone++
		return api.OK
	})
}

// end says of each row that it is over.
func (r *recovery) end(rows []api.Row) api.Errno {
	for _, row := range rows {
		if _, e := r.log(api.Record{Kind: api.KEnd, Birth: row.Birth}); e != api.OK {
			return e
		}
		r.told.Ends++
	}
	return api.OK
}
