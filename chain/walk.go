package chain

import "tidemark/api"

// mostReads bounds a walk, whatever is read.
const mostReads = 4096

// walk stands at one record of a chain after the other.
type walk struct {
	read  func(lsn int) (api.Record, api.Errno)
	reads int
	place int
	birth int // the chain's: known once the first record is read
}

// record reads where the walk stands; ErrChain, if what is there is no record of this chain.
func (w *walk) record() (api.Record, api.Errno) {
	if w.place < 0 || w.reads == mostReads {
		return api.Record{}, api.ErrChain
	}
	r, e := ask(w.read, w.place)
	if e != api.OK {
		return api.Record{}, e
	}
	if w.reads == 0 {
		w.birth = birthOf(r, w.place)
	}
	w.reads++
	if !w.isOwn(r) {
		return api.Record{}, api.ErrChain
	}
	return r, api.OK
}

// isOwn tells whether the record where the walk stands may be one of this chain.
func (w *walk) isOwn(r api.Record) bool {
	switch r.Kind {
	case api.KBegin:
		return w.place == w.birth
	case api.KUpdate, api.KUndo, api.KCommit, api.KAbort, api.KEnd:
		return r.Birth == w.birth && w.birth >= 1 && w.birth < w.place
	}
	return false
}

// goTo moves the walk down to a place, if that lies in this chain.
func (w *walk) goTo(place int) bool {
	if place < w.birth || place >= w.place {
		return false
	}
	w.place = place
	return true
}

// birthOf gives the birth of the transaction whose record stands at a place.
func birthOf(r api.Record, place int) int {
	if r.Kind == api.KBegin {
		return place
	}
	return r.Birth
}

// ask reads a record. No call of the program panics: so a read that does, or that is none, is caught here, and nothing hangs together by what it did not answer.
func ask(read func(lsn int) (api.Record, api.Errno), lsn int) (r api.Record, e api.Errno) {
	defer func() {
		if recover() != nil {
			r, e = api.Record{}, api.ErrChain
		}
	}()
	return read(lsn)
}
