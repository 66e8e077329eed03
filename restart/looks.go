package restart

import (
	"tidemark/api"
	"tidemark/look"
	"tidemark/page"
	"tidemark/pair"
	"tidemark/room"
	"tidemark/scan"
)

// mostNumber is the greatest turn, base and next base that a restart takes: so far from MaxLsn that no run comes there.
const mostNumber = api.MaxLsn - 1<<40

// nowhere is the number of no page.
const nowhere = -1

// lookAtMaster refuses a disk that was written, though no master says so, and a master at the end of all numbers.
func (r *recovery) lookAtMaster() api.Errno {
	if !r.isNamed && !r.isNew() {
		return api.ErrCorrupt
	}
	return corruptUnless(r.state.Turn <= mostNumber && r.state.Base <= mostNumber)
}

// isNew tells whether nothing was ever written behind a first master: whatever the masters' bytes are.
func (r *recovery) isNew() bool {
	for _, b := range r.pages {
		if !isBlank(b) {
			return false
		}
	}
	return isBlank(r.pair) && len(r.log) == 0
}

// lookAtPages refuses a page that is not right and that no pair can set right.
func (r *recovery) lookAtPages() api.Errno {
	inPair, _, e := pair.Parse(r.pair, r.shape.Pages, r.shape.Slots)
	if e == api.OK {
		r.greatest = pair.Bytes(r.pair).Lsn()
	} else {
		inPair = nowhere
	}
	for number, b := range r.pages {
		lsn, e := page.Check(b, number, r.shape.Slots)
		if e != api.OK && number != inPair {
			return api.ErrCorrupt
		}
		r.greatest = max(r.greatest, lsn)
	}
	return api.OK
}

// lookAtLog refuses a log that no engine can have left.
func (r *recovery) lookAtLog() (e api.Errno) {
	r.found, e = look.Analyse(r.log, r.state.Base, r.state.Check, r.shape.Pages, r.shape.Slots)
	return e
}

// lookAtLsns refuses pages that are ahead of the log.
func (r *recovery) lookAtLsns() api.Errno {
	return corruptUnless(r.greatest < r.state.Base+1+r.found.Bytes)
}

// lookAtRoom refuses a log in which what will be appended has no room.
func (r *recovery) lookAtRoom() api.Errno {
	n := r.bytesAtEnd()
	return corruptUnless(n <= r.shape.Log && r.state.Base+n <= mostNumber)
}

// bytesAtEnd tells how many bytes the log will have when all are undone and ended.
func (r *recovery) bytesAtEnd() int {
	n := r.found.Bytes + len(r.found.Rows)*room.Frame(api.KEnd, 0, 0)
	left := r.found.Undo // LSNs, falling: the log, which rises, meets the last one first
	for lsn, x := range scan.Each(r.log, r.state.Base) {
		if last := len(left) - 1; last >= 0 && left[last] == lsn {
			n += room.Frame(api.KUndo, len(x.Before), 0)
			left = left[:last]
		}
	}
	return n
}

func corruptUnless(isSo bool) api.Errno {
	if isSo {
		return api.OK
	}
	return api.ErrCorrupt
}

func isBlank(b []byte) bool {
	for _, x := range b {
		if x != 0 {
			return false
		}
	}
	return true
}
