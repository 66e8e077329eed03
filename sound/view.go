package sound

import (
	"tidemark/api"
	"tidemark/disk"
	"tidemark/look"
	"tidemark/master"
	"tidemark/page"
	"tidemark/pair"
	"tidemark/scan"
)

// What a restart would append: a compensation's frame has so many bytes beside those that it lays, an end's has so many in all.
const (
	undoFrame = 46
	endFrame  = 33
)

// nowhere is the number of no page.
const nowhere = -1

// view is an image, and what the rules have found in it so far.
type view struct {
	shape api.Shape
	image api.Image

	disk     *disk.Disk
	state    master.State // what the newest master says; of a new disk all zero
	greatest int          // of the LSNs of all right pages, and of a right pair's
	found    look.Result
}

// isNew tells whether nothing was ever written but masters.
func (v *view) isNew() bool {
	for _, b := range v.image.Pages {
		if !isBlank(b) {
			return false
		}
	}
	return isBlank(v.image.Pair) && len(v.image.Log) == 0
}

// findLsns tells whether each page is right or can be set right, and finds the greatest LSN by the way.
func (v *view) findLsns() bool {
	inPair := v.lookAtPair()
	for number, b := range v.image.Pages {
		lsn, e := page.Check(b, number, v.shape.Slots)
		if e != api.OK && number != inPair {
			return false
		}
		v.greatest = max(v.greatest, lsn)
	}
	return true
}

// lookAtPair gives the number of the page that is in a right pair.
func (v *view) lookAtPair() int {
	number, _, e := pair.Parse(v.image.Pair, v.shape.Pages, v.shape.Slots)
	if e != api.OK {
		return nowhere
	}
	v.greatest = pair.Bytes(v.image.Pair).Lsn()
	return number
}

// bytesAtEnd tells how many bytes the log would have when all are undone and ended.
func (v *view) bytesAtEnd() int {
	n := v.found.Bytes + endFrame*len(v.found.Rows)
	left := v.found.Undo // LSNs, falling: the log, which rises, meets the last one first
	for lsn, r := range scan.Each(v.image.Log, v.state.Base) {
		if last := len(left) - 1; last >= 0 && left[last] == lsn {
			n += undoFrame + len(r.Before)
			left = left[:last]
		}
	}
	return n
}

func isBlank(b []byte) bool {
	for _, x := range b {
		if x != 0 {
			return false
		}
	}
	return true
}
