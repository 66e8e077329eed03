package room

import "tidemark/api"

// A frame's parts in bytes, as frame and record lay them.
const (
	wrapBytes  = 4 + 8 + 4 // the body's length, the LSN, the sum
	headBytes  = 1 + 8 + 8 // Kind, Birth, Prev
	plainBytes = wrapBytes + headBytes
	placeBytes = 2 + 2 // From, the range's length
	nextBytes  = 8
	rowBytes   = 8 + 1 + 1 + 8 + 8 // Birth, Id, State, Last, Next
	recBytes   = 1 + 8             // Page, Lsn
)

const mostCount = 65535

// Frame is how many bytes a record's frame has.
func Frame(kind int, n int, m int) int {
	if !isCount(n) || !isCount(m) {
		return 0
	}
	size := ownBytes(kind, n, m)
	switch kind {
	case api.KUpdate, api.KUndo:
		size += placeBytes + n // n: After
		fallthrough
	case api.KBegin, api.KCheck:
		size++ // Page, Id, or how many rows there are
		fallthrough
	case api.KCommit, api.KAbort, api.KEnd:
		size += plainBytes
	}
	return size
}

// ownBytes tells what records of that kind alone have.
func ownBytes(kind, n, m int) int {
	switch kind {
	case api.KUpdate:
		return n // Before
	case api.KUndo:
		return nextBytes
	case api.KCheck:
		return rowBytes*n + 1 + recBytes*m // 1: how many recs there are
	}
	return 0
}

func isCount(n int) bool {
	return n >= 0 && n <= mostCount
}
