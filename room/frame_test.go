package room_test

import (
	"math"
	"testing"

	"tidemark/api"
	"tidemark/frame"
	"tidemark/record"
	"tidemark/room"
)

func frames(t *testing.T, kind, n, m, want int) {
	t.Helper()
	if size := room.Frame(kind, n, m); size != want {
		t.Errorf("Frame(%d, %d, %d): %d, want %d", kind, n, m, size, want)
	}
}

// P17.1, the chapter's first example.
func TestFrameExamples(t *testing.T) {
	frames(t, api.KBegin, 0, 0, 34)
	frames(t, api.KUpdate, 16, 0, 70)
	frames(t, api.KUndo, 16, 0, 62)
	frames(t, api.KUndo, 1, 0, 47)
	frames(t, api.KCheck, 0, 0, 35)
	frames(t, api.KCheck, 8, 16, 387)
	frames(t, 0, 0, 0, 0)
	frames(t, 8, 0, 0, 0)
	frames(t, api.KEnd, -1, 0, 0)
	frames(t, api.KCheck, 0, 65536, 0)
}

// formula is the chapter's, of numbers that may be; 1 to 7 are the kinds as the document counts them.
func formula(kind, n, m int) int {
	return []int{0, 34, 38 + 2*n, 46 + n, 33, 33, 33, 35 + 26*n + 9*m, 0}[kind]
}

// P17.1: all kinds, at small numbers and at the edges; where the kind has no such number it counts for nothing.
func TestFrame(t *testing.T) {
	counts := append(lengths(), 0, 3, 4, 5, 7, 8, 9)
	for kind := range 9 {
		for _, n := range counts {
			for _, m := range counts {
				frames(t, kind, n, m, formula(kind, n, m))
			}
		}
		for n := range mostCount + 1 {
			frames(t, kind, n, 0, formula(kind, n, 0))
			frames(t, kind, 0, n, formula(kind, 0, n))
		}
	}
}

// P17.1: a number that may not be, in either place, beside each other number, and of each kind, whether it has that number or not.
func TestFrameNumbersRefused(t *testing.T) {
	for kind := range 9 {
		for _, wrong := range noLengths() {
			if wrong == 0 { // as a count it may be
				continue
			}
			for _, other := range append(lengths(), noLengths()...) {
				frames(t, kind, wrong, other, 0)
				frames(t, kind, other, wrong, 0)
			}
		}
	}
}

// P17.1: kinds that are none: just beside, where a narrower number would fold back on one, and at the ends of int.
func TestFrameKindsRefused(t *testing.T) {
	for _, kind := range []int{0, -1, -2, -7, 8, 9, 15, 64, math.MaxInt, math.MinInt} {
		frames(t, kind, 16, 3, 0)
		frames(t, kind, 0, 0, 0)
	}
	for kind := 1; kind <= 7; kind++ {
		for _, high := range []int{8, 16, 256, 1 << 16, 1 << 32, 1 << 60, math.MinInt} {
			frames(t, kind+high, 16, 3, 0)
			frames(t, kind+high, 0, 0, 0)
		}
	}
}

// some gives rows and recs that a checkpoint may have.
func some(rows, recs int) ([]api.Row, []api.Rec) {
	var all []api.Row
	for i := range rows {
		all = append(all, api.Row{Birth: i + 1, Id: i + 1, State: api.SOpen, Last: i + 1})
	}
	var dirty []api.Rec
	for i := range recs {
		dirty = append(dirty, api.Rec{Page: i, Lsn: i + 1})
	}
	return all, dirty
}

// agrees holds a right record's frame, as the layers below make it, against what Frame tells.
func agrees(t *testing.T, r api.Record, n, m int) {
	t.Helper()
	b, e := record.Bytes(r)
	if e != api.OK {
		t.Fatalf("Bytes(%v): %d", r, e)
	}
	f, e := frame.Wrap(1, b)
	if e != api.OK {
		t.Fatalf("Wrap of %v: %d", r, e)
	}
	frames(t, r.Kind, n, m, len(f))
}

// P17.1: the numbers agree with record's and frame's, at all sizes that records may have.
func TestFrameAgreesBelow(t *testing.T) {
	agrees(t, api.Record{Kind: api.KBegin, Id: 3}, 0, 0)
	for _, kind := range []int{api.KCommit, api.KAbort, api.KEnd} {
		agrees(t, api.Record{Kind: kind, Birth: 1, Prev: 35}, 0, 0)
	}
	for n := 1; n <= api.MaxSlots*api.SlotBytes; n++ {
		before, after := make([]byte, n), make([]byte, n)
		after[0], after[n-1] = 1, 1
		agrees(t, api.Record{Kind: api.KUpdate, Birth: 1, Prev: 1, From: api.PageHead, Before: before, After: after}, n, 0)
		agrees(t, api.Record{Kind: api.KUndo, Birth: 1, Prev: 35, From: api.PageHead, After: before}, n, 0)
	}
	for n := range api.MaxTable + 1 {
		for m := range api.MaxPages + 1 {
			rows, dirty := some(n, m)
			agrees(t, api.Record{Kind: api.KCheck, Rows: rows, Dirty: dirty}, n, m)
		}
	}
}
