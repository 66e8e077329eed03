package chain_test

import (
	"math"
	"testing"

	"tidemark/api"
)

// rolled is a transaction that took back two of four updates, and wrote one more.
func rolled() log {
	return log{
		40:  {Kind: 1, Id: 9},
		50:  {Kind: 2, Birth: 40, Prev: 40},
		60:  {Kind: 2, Birth: 40, Prev: 50},
		70:  {Kind: 2, Birth: 40, Prev: 60},
		80:  {Kind: 2, Birth: 40, Prev: 70},
		90:  {Kind: 3, Birth: 40, Prev: 80, Next: 70},
		100: {Kind: 3, Birth: 40, Prev: 90, Next: 60},
		110: {Kind: 2, Birth: 40, Prev: 100},
	}
}

// P12.2, the chapter's second example.
func TestUndoExample(t *testing.T) {
	l := example()
	want(t, "Undo", l, 109, []int{109, 35}, api.OK, []int{109, 35, 1})
	want(t, "Undo", l, 35, []int{35}, api.OK, []int{35, 1})
	breaks(t, "Undo", l, 149, 149)
	breaks(t, "Undo", l, 1, 1)
	goes(t, "Undo", l, 0)
	breaks(t, "Undo", l, 75, 75)
	want(t, "Undo", l, 34, nil, api.ErrLsn, []int{34})
}

// P12.2: 0 is none even if an update could be read there; below it is nothing.
func TestUndoFromNoPlace(t *testing.T) {
	l := log{0: {Kind: 2, Birth: 1, Prev: 1}, -1: {Kind: 2, Birth: 1, Prev: 1}}
	goes(t, "Undo", l, 0)
	for _, next := range []int{-1, -2, -35, -mostLsn, math.MinInt, math.MinInt + 1} {
		breaks(t, "Undo", l, next)
	}
}

// P12.2: places at both ends of int.
func TestUndoPlaces(t *testing.T) {
	for _, next := range []int{3, 4, 100, mostLsn, mostLsn + 1, math.MaxInt - 1, math.MaxInt} {
		l := log{next: {Kind: 2, Birth: 1, Prev: next - 1}, next - 1: {Kind: 2, Birth: 1, Prev: 1}, 1: {Kind: 1}}
		want(t, "Undo", l, next, []int{next, next - 1}, api.OK, []int{next, next - 1, 1})
	}
}

// P12.2: where an update must be, at first, is nothing else.
func TestUndoFirstIsUpdate(t *testing.T) {
	for _, kind := range append(noKinds(), 1, 3, 4, 5, 6) {
		breaks(t, "Undo", example().with(109, api.Record{Kind: kind, Birth: 1, Prev: 35, Next: 35}), 109, 109)
		breaks(t, "Undo", example().with(109, api.Record{Kind: kind, Birth: 1, Prev: 35}), 109, 109)
	}
}

// P12.2, step 5: what a compensation passes over is neither read nor told.
func TestUndoOverCompensations(t *testing.T) {
	l := rolled()
	want(t, "Undo", l, 110, []int{110, 60, 50}, api.OK, []int{110, 100, 60, 50, 40})
	want(t, "Undo", l, 80, []int{80, 70, 60, 50}, api.OK, []int{80, 70, 60, 50, 40})
	want(t, "Undo", l, 60, []int{60, 50}, api.OK, []int{60, 50, 40})
	// Next 0: nothing else is to be undone, and nothing else is read.
	want(t, "Undo", l.with(100, api.Record{Kind: 3, Birth: 40, Prev: 90}), 110, []int{110}, api.OK, []int{110, 100})
	// A second update behind it, and a second compensation further ahead.
	l = l.with(110, api.Record{Kind: 3, Birth: 40, Prev: 100, Next: 60}).with(120, api.Record{Kind: 2, Birth: 40, Prev: 110})
	l = l.with(60, api.Record{Kind: 2, Birth: 40, Prev: 55}).with(55, api.Record{Kind: 3, Birth: 40, Prev: 50, Next: 50})
	want(t, "Undo", l, 120, []int{120, 60, 50}, api.OK, []int{120, 110, 60, 55, 50, 40})
}

// P12.2, step 5: a compensation's Prev plays no part, its Next does: from the birth to the place less 1, and an update there.
func TestUndoNext(t *testing.T) {
	l := rolled()
	for _, prev := range []int{0, -1, 40, 90, 100, 101, mostLsn, math.MinInt, math.MaxInt} {
		l := l.with(100, api.Record{Kind: 3, Birth: 40, Prev: prev, Next: 60})
		want(t, "Undo", l, 110, []int{110, 60, 50}, api.OK, []int{110, 100, 60, 50, 40})
	}
	for _, next := range beyond(40, 100) {
		if next != 0 {
			breaks(t, "Undo", l.with(100, api.Record{Kind: 3, Birth: 40, Prev: 90, Next: next}), 110, 110, 100)
		}
	}
	breaks(t, "Undo", l.with(100, api.Record{Kind: 3, Birth: 40, Prev: 90, Next: 90}), 110, 110, 100, 90)
	breaks(t, "Undo", l.with(100, api.Record{Kind: 3, Birth: 40, Prev: 90, Next: 40}), 110, 110, 100, 40)
	want(t, "Undo", l.with(100, api.Record{Kind: 3, Birth: 40, Prev: 90, Next: 99}), 110, nil, api.ErrLsn, []int{110, 100, 99})
	l = l.with(99, api.Record{Kind: 2, Birth: 40, Prev: 50}).with(100, api.Record{Kind: 3, Birth: 40, Prev: 90, Next: 99})
	want(t, "Undo", l, 110, []int{110, 99, 50}, api.OK, []int{110, 100, 99, 50, 40})
	for _, kind := range append(noKinds(), 1, 3, 4, 5, 6) {
		breaks(t, "Undo", rolled().with(60, api.Record{Kind: kind, Birth: 40, Prev: 50, Next: 50}), 110, 110, 100, 60)
	}
	// It must be there but once: ahead of that update any record of the transaction may be.
	want(t, "Undo", rolled().with(50, api.Record{Kind: 5, Birth: 40, Prev: 40}), 110, []int{110, 60}, api.OK, []int{110, 100, 60, 50, 40})
}

// P12.2, step 5: commits, aborts and ends are passed by their Prev, and are not told.
func TestUndoKinds(t *testing.T) {
	for kind := 4; kind <= 6; kind++ {
		want(t, "Undo", example().with(35, api.Record{Kind: kind, Birth: 1, Prev: 1}), 109, []int{109}, api.OK, []int{109, 35, 1})
		for _, next := range []int{0, 50, -1, mostLsn} { // their Next plays no part
			want(t, "Undo", rolled().with(60, api.Record{Kind: kind, Birth: 40, Prev: 50, Next: next}), 70, []int{70, 50}, api.OK, []int{70, 60, 50, 40})
		}
	}
	for _, kind := range noKinds() {
		breaks(t, "Undo", example().with(35, api.Record{Kind: kind, Birth: 1, Prev: 1}), 109, 109, 35)
		breaks(t, "Undo", example().with(1, api.Record{Kind: kind, Id: 1}), 109, 109, 35, 1)
	}
}

// P12.2, step 5: Prev of all but compensations is from the birth to the place less 1; an update's Next plays no part.
func TestUndoPrev(t *testing.T) {
	l := rolled()
	for _, next := range []int{0, 40, 50, 69, 70, -1, mostLsn, math.MinInt, math.MaxInt} {
		want(t, "Undo", l.with(70, api.Record{Kind: 2, Birth: 40, Prev: 50, Next: next}), 80, []int{80, 70, 50}, api.OK, []int{80, 70, 50, 40})
	}
	want(t, "Undo", l.with(80, api.Record{Kind: 2, Birth: 40, Prev: 40}), 80, []int{80}, api.OK, []int{80, 40})
	for _, prev := range beyond(40, 80) {
		breaks(t, "Undo", l.with(80, api.Record{Kind: 2, Birth: 40, Prev: prev, Next: 50}), 80, 80)
	}
	for _, kind := range []int{2, 4, 5, 6} {
		for _, prev := range beyond(40, 70) {
			breaks(t, "Undo", l.with(70, api.Record{Kind: kind, Birth: 40, Prev: prev, Next: 50}), 80, 80, 70)
		}
	}
}

// P12.2, steps 4 and 5: the birth is the first record's, and only a begin stands there.
func TestUndoBirth(t *testing.T) {
	for _, birth := range []int{0, -1, -40, math.MinInt, 110, 111, mostLsn, math.MaxInt} {
		breaks(t, "Undo", rolled().with(110, api.Record{Kind: 2, Birth: birth, Prev: 100}), 110, 110)
	}
	for _, birth := range []int{0, -40, 39, 41, 60, 100, 110, math.MinInt, math.MaxInt} {
		for _, next := range []int{0, 60} {
			breaks(t, "Undo", rolled().with(100, api.Record{Kind: 3, Birth: birth, Prev: 90, Next: next}), 110, 110, 100)
		}
		breaks(t, "Undo", rolled().with(60, api.Record{Kind: 2, Birth: birth, Prev: 50}), 110, 110, 100, 60)
		breaks(t, "Undo", rolled().with(60, api.Record{Kind: 5, Birth: birth, Prev: 50}), 70, 70, 60)
	}
	breaks(t, "Undo", rolled().with(50, api.Record{Kind: 1, Id: 9}), 110, 110, 100, 60, 50)
	for kind := 2; kind <= 6; kind++ {
		breaks(t, "Undo", rolled().with(40, api.Record{Kind: kind, Birth: 40, Prev: 40}), 110, 110, 100, 60, 50, 40)
	}
	for _, n := range []int{0, 1, -1, 75, mostLsn, math.MinInt, math.MaxInt} {
		odd := api.Record{Kind: 1, Id: n, Birth: n, Prev: n, Next: n, Page: n}
		want(t, "Undo", rolled().with(40, odd), 110, []int{110, 60, 50}, api.OK, []int{110, 100, 60, 50, 40})
	}
}
