package write

import (
	"tidemark/api"
	"tidemark/room"
)

// mayBegin gives the error that Begin looks for first.
func (w *Writer) mayBegin(id int) api.Errno {
	if w.dead {
		return api.ErrDead
	}
	if _, there := w.t.ById(id); there || id < 1 || id > api.MaxId {
		return api.ErrTxn
	}
	if w.isFull(id) {
		return api.ErrTable
	}
	kept := room.Frame(api.KCommit, 0, 0) + room.Frame(api.KAbort, 0, 0) + room.Frame(api.KEnd, 0, 0)
	if !w.r.Fits(w.l.Bytes(), room.Frame(api.KBegin, 0, 0), kept) {
		return api.ErrLog
	}
	return api.OK
}

// isFull tells whether the table refuses one row more. The table tells that by its Put alone: so a row of a number that is free is put, and taken out again.
func (w *Writer) isFull(id int) bool {
	birth := w.freeBirth()
	e := w.t.Put(api.Row{Birth: birth, Id: id, State: api.SOpen, Last: birth})
	w.t.Drop(birth)
	return e == api.ErrTable
}

// freeBirth gives a birth that no row has.
func (w *Writer) freeBirth() int {
	birth := 1
	for {
		if _, there := w.t.Get(birth); !there {
			return birth
		}
		birth++
	}
}

// find gives the row of an open transaction.
func (w *Writer) find(id int) (api.Row, api.Errno) {
	if w.dead {
		return api.Row{}, api.ErrDead
	}
	row, there := w.t.ById(id)
	if !there {
		return api.Row{}, api.ErrTxn
	}
	return row, api.OK
}

// commit has the commit record last ahead of the end record, and lets go of all that the transaction has.
func (w *Writer) commit(row api.Row) api.Errno {
	lsn, e := w.l.Append(api.Record{Kind: api.KCommit, Birth: row.Birth, Prev: row.Last})
	if e != api.OK {
		return e
	}
	if e := w.l.Flush(lsn); e != api.OK {
		return e
	}
	// From here on it is committed, whatever is answered: a log that lacks room for the end record, as a Room greater than its area would let it, takes nothing of that back.
	w.l.Append(api.Record{Kind: api.KEnd, Birth: row.Birth, Prev: lsn})
	w.t.Drop(row.Birth)
	w.r.Drop(row.Birth)
	w.k.Drop(row.Birth)
	return api.OK
}

// met hands an answer on, and marks that this Writer has met ErrDead.
func (w *Writer) met(e api.Errno) api.Errno {
	if e == api.ErrDead {
		w.dead = true
	}
	return e
}
