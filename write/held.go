package write

import (
	"tidemark/api"
	"tidemark/home"
	"tidemark/image"
	"tidemark/page"
	"tidemark/room"
)

// held is a page that a transaction holds, while it is pinned.
type held struct {
	row    api.Row // the transaction's
	number int
	bytes  []byte
}

// with takes a key's page for a transaction, and does something with it; an error gives the page back, if it was not held ahead of this call.
func (w *Writer) with(id, key, pick int, do func(held) api.Errno) api.Errno {
	row, e := w.find(id)
	if e != api.OK {
		return e
	}
	number, e := home.Of(key, w.pages, w.keys)
	if e != api.OK {
		return e
	}
	had := w.k.Holder(number) == row.Birth
	if e := w.k.Take(number, row.Birth); e != api.OK {
		return e
	}
	e = w.pinned(number, pick, func(b []byte) api.Errno {
		return do(held{row: row, number: number, bytes: b})
	})
	if e != api.OK && !had {
		w.k.Give(number)
	}
	return w.met(e)
}

// pinned does something with a page's bytes while it is pinned.
func (w *Writer) pinned(number, pick int, do func([]byte) api.Errno) api.Errno {
	b, e := w.p.Pin(number, pick)
	if e != api.OK {
		return e
	}
	defer w.p.Unpin(number)
	return do(b)
}

// change has a held page have the bytes c: the update is logged, then the page is changed in its frame.
func (w *Writer) change(h held, c []byte) api.Errno {
	from, to, e := image.Part(h.bytes, c)
	if e != api.OK || from == to {
		return e
	}
	n := to - from
	if e := w.mayUpdate(h, n); e != api.OK {
		return e
	}
	lsn, e := w.l.Append(updateOf(h, c, from, to))
	if e != api.OK {
		return e
	}
	h.row.Last, h.row.Next = lsn, lsn
	w.t.Set(h.row)
	w.r.Update(h.row.Birth, n)
	return w.p.Change(h.number, c, lsn)
}

// mayUpdate refuses an update of n bytes that may not be appended.
func (w *Writer) mayUpdate(h held, n int) api.Errno {
	if !w.r.Fits(w.l.Bytes(), room.Frame(api.KUpdate, n, 0), room.Frame(api.KUndo, n, 0)) {
		return api.ErrLog
	}
	// The pool would refuse such a page too, but only behind the record.
	if lsn, e := page.Lsn(h.bytes); e != api.OK || lsn >= w.l.End() {
		return api.ErrLsn
	}
	return api.OK
}

// updateOf is the record of the range of a held page that becomes another.
func updateOf(h held, c []byte, from, to int) api.Record {
	before, _ := image.Cut(h.bytes, from, to) // the range lies in both: Part has told it
	after, _ := image.Cut(c, from, to)
	return api.Record{
		Kind:   api.KUpdate,
		Birth:  h.row.Birth,
		Prev:   h.row.Last,
		Page:   h.number,
		From:   from,
		Before: before,
		After:  after,
	}
}
