package back

import (
	"tidemark/api"
	"tidemark/chain"
	"tidemark/image"
	"tidemark/pool"
	"tidemark/room"
	"tidemark/table"
	"tidemark/wal"
)

// rollback is one transaction on its way back.
type rollback struct {
	l *wal.Log
	p *pool.Pool
	t *table.Table
	r *room.Room

	pick int
	row  api.Row // as far as it came
}

// abort says in the log that this transaction goes back, unless that was said already.
func (b *rollback) abort() api.Errno {
	if b.row.State != api.SOpen {
		return api.OK
	}
	_, e := b.log(api.Record{Kind: api.KAbort}, b.row.Next)
	return e
}

// undoAll undoes the updates that are to be undone yet, and tells how many they were.
func (b *rollback) undoAll() (int, api.Errno) {
	list, e := chain.Undo(b.l.Read, b.row.Next)
	if e != api.OK {
		return 0, e
	}
	var down func(left []int) api.Errno
	down = func(left []int) api.Errno {
		if len(left) == 0 {
			return api.OK
		}
		if e := b.undo(left[0], first(left[1:])); e != api.OK {
			return e
		}
		return down(left[1:])
	}
	return len(list), down(list)
}

// undo undoes the update at an LSN; next is the one that is to be undone behind it.
func (b *rollback) undo(lsn int, next int) api.Errno {
	u, e := b.l.Read(lsn)
	if e != api.OK {
		return e
	}
	if e := b.layBefore(u, next); e != api.OK {
		return e
	}
	return b.r.Undone(b.row.Birth, len(u.Before))
}

// layBefore logs an update's compensation, and gives its page the bytes that it had ahead of the update.
func (b *rollback) layBefore(u api.Record, next int) api.Errno {
	was, e := b.p.Pin(u.Page, b.pick)
	if e != api.OK {
		return e
	}
	defer b.p.Unpin(u.Page)
	c, e := b.log(api.Record{Kind: api.KUndo, Page: u.Page, From: u.From, After: u.Before, Next: next}, next)
	if e != api.OK {
		return e
	}
	will, e := image.Lay(was, u.From, u.Before)
	if e != api.OK {
		return e
	}
	return b.p.Change(u.Page, will, c)
}

// end says in the log that this transaction is over, and lets its row go and what it kept of the log.
func (b *rollback) end() api.Errno {
	if _, e := b.l.Append(b.own(api.Record{Kind: api.KEnd})); e != api.OK {
		return e
	}
	b.t.Drop(b.row.Birth)
	return b.r.Drop(b.row.Birth)
}

// log appends a record behind which the transaction is on its way back, and sets its row behind it: so the table is right, wherever the next step ends.
func (b *rollback) log(r api.Record, next int) (int, api.Errno) {
	lsn, e := b.l.Append(b.own(r))
	if e != api.OK {
		return 0, e
	}
	b.row.State, b.row.Last, b.row.Next = api.SAborting, lsn, next
	return lsn, b.t.Set(b.row)
}

// own gives a record as this transaction's next one.
func (b *rollback) own(r api.Record) api.Record {
	r.Birth, r.Prev = b.row.Birth, b.row.Last
	return r
}

// first gives the first LSN of a list, 0 where there is none.
func first(lsns []int) int {
	if len(lsns) == 0 {
		return 0
	}
	return lsns[0]
}
