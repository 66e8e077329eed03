package aries

import (
	"bytes"

	"tidemark/api"
	"tidemark/image"
	"tidemark/page"
)

// onPage pins a page while something is done with its bytes and its LSN.
func (r *recovery) onPage(number int, do func(was []byte, at int) api.Errno) api.Errno {
	was, e := r.p.Pin(number, 0)
	if e != api.OK {
		return e
	}
	defer r.p.Unpin(number)
	at, _ := page.Lsn(was) // it has one: what is in a frame is a right page
	return do(was, at)
}

// lay gives a pinned page other bytes where a record's range is; lsn is that of the record that says so.
func (r *recovery) lay(x api.Record, was []byte, b []byte, lsn int) api.Errno {
	will, e := image.Lay(was, x.From, b)
	if e != api.OK {
		return e
	}
	return r.p.Change(x.Page, will, lsn)
}

// log appends a record as the next one of its transaction.
func (r *recovery) log(x api.Record) (int, api.Errno) {
	x.Prev = r.lasts[x.Birth]
	lsn, e := r.l.Append(x)
	if e != api.OK {
		return 0, e
	}
	r.lasts[x.Birth] = lsn
	return lsn, api.OK
}

// own gives a record in memory of its own: the steps may keep it, and whatever they do to it, what is laid is the log's.
func own(x api.Record) api.Record {
	x.Before, x.After = bytes.Clone(x.Before), bytes.Clone(x.After)
	return x
}

// ask puts a question to the steps. No call of the program panics: so steps that do, or that are none, are caught here, and nothing is set right by what they did not answer.
func ask(question func() bool) (yes bool, e api.Errno) {
	defer func() {
		if recover() != nil {
			yes, e = false, api.ErrCorrupt
		}
	}()
	return question(), api.OK
}
