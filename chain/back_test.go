package chain_test

import (
	"math"
	"testing"

	"tidemark/api"
)

// P12.1, the chapter's first example.
func TestBackExample(t *testing.T) {
	l := example()
	goes(t, "Back", l, 149, 149, 109, 35, 1)
	goes(t, "Back", l, 109, 109, 35, 1)
	goes(t, "Back", l, 35, 35, 1)
	goes(t, "Back", l, 1, 1)
	goes(t, "Back", l, 75, 75)
	goes(t, "Back", l, 0)
	want(t, "Back", l, 2, nil, api.ErrLsn, []int{2})
	breaks(t, "Back", l, -1)
}

// P12.1, the chapter's third example.
func TestBackBroken(t *testing.T) {
	l := example()
	for _, prev := range []int{109, 0, mostLsn} {
		breaks(t, "Back", l.with(109, api.Record{Kind: 2, Birth: 1, Prev: prev}), 109, 109)
	}
	breaks(t, "Back", l.with(109, api.Record{Kind: 2, Birth: 1, Prev: 75}), 109, 109, 75)
	breaks(t, "Back", l.with(35, api.Record{Kind: 7}), 149, 149, 109, 35)
}

// P12.1: 0 is none even if a record could be read there; below it is nothing.
func TestBackFromNoPlace(t *testing.T) {
	l := log{0: {Kind: 1, Id: 1}, -1: {Kind: 1, Id: 1}, math.MinInt: {Kind: 1, Id: 1}}
	goes(t, "Back", l, 0)
	for _, last := range []int{-1, -2, -35, -mostLsn, math.MinInt, math.MinInt + 1} {
		breaks(t, "Back", l, last)
	}
}

// P12.1: places at both ends of int, and places that lie side by side.
func TestBackPlaces(t *testing.T) {
	for _, last := range []int{3, 4, 100, mostLsn, mostLsn + 1, math.MaxInt - 1, math.MaxInt} {
		goes(t, "Back", log{last: {Kind: 1, Id: 1}}, last, last)
		l := log{last: {Kind: 2, Birth: 1, Prev: last - 1}, last - 1: {Kind: 2, Birth: 1, Prev: 1}, 1: {Kind: 1}}
		goes(t, "Back", l, last, last, last-1, 1)
		l = log{last: {Kind: 2, Birth: last - 1, Prev: last - 1}, last - 1: {Kind: 1}}
		goes(t, "Back", l, last, last, last-1)
	}
}

// P12.1, step 3: all kinds of a transaction's records may stand at each place, and no others.
func TestBackKinds(t *testing.T) {
	for kind := 2; kind <= 6; kind++ {
		goes(t, "Back", example().with(149, api.Record{Kind: kind, Birth: 1, Prev: 109}), 149, 149, 109, 35, 1)
		goes(t, "Back", example().with(109, api.Record{Kind: kind, Birth: 1, Prev: 35}), 149, 149, 109, 35, 1)
		goes(t, "Back", example().with(35, api.Record{Kind: kind, Birth: 1, Prev: 1}), 149, 149, 109, 35, 1)
	}
	for _, kind := range noKinds() {
		breaks(t, "Back", example().with(149, api.Record{Kind: kind, Birth: 1, Prev: 109}), 149, 149)
		breaks(t, "Back", example().with(109, api.Record{Kind: kind, Birth: 1, Prev: 35}), 149, 149, 109)
		breaks(t, "Back", example().with(35, api.Record{Kind: kind, Birth: 1, Prev: 1}), 149, 149, 109, 35)
		breaks(t, "Back", example().with(1, api.Record{Kind: kind, Id: 1}), 149, 149, 109, 35, 1)
		breaks(t, "Back", example().with(1, api.Record{Kind: kind, Birth: 1}), 1, 1)
	}
}

// P12.1, step 4: a begin ends the walk at the birth alone; of its own fields none is looked at.
func TestBackBegin(t *testing.T) {
	breaks(t, "Back", example().with(35, api.Record{Kind: 1, Id: 1}), 149, 149, 109, 35)
	breaks(t, "Back", example().with(35, api.Record{Kind: 1, Birth: 1, Prev: 1}), 149, 149, 109, 35)
	breaks(t, "Back", example().with(35, api.Record{Kind: 1, Birth: 35, Prev: 1}), 149, 149, 109, 35)
	for _, n := range []int{0, 1, -1, 75, 2, mostLsn, math.MinInt, math.MaxInt} {
		odd := api.Record{Kind: 1, Id: n, Birth: n, Prev: n, Next: n, Page: n}
		goes(t, "Back", example().with(1, odd), 149, 149, 109, 35, 1)
		goes(t, "Back", example().with(75, odd), 75, 75)
	}
}

// P12.1, step 5: the birth is the first record's; it lies below each of the chain's other places, and above 0.
func TestBackBirth(t *testing.T) {
	for _, birth := range []int{0, 2, -1, 34, 35, 36, 75, 109, 149, mostLsn, math.MinInt, math.MaxInt} {
		breaks(t, "Back", example().with(35, api.Record{Kind: 2, Birth: birth, Prev: 1}), 149, 149, 109, 35)
		breaks(t, "Back", example().with(109, api.Record{Kind: 2, Birth: birth, Prev: 35}), 149, 149, 109)
	}
	for _, birth := range []int{0, -1, -34, math.MinInt, 149, 150, mostLsn, math.MaxInt} {
		breaks(t, "Back", example().with(149, api.Record{Kind: 3, Birth: birth, Prev: 109}), 149, 149)
	}
	// The first record's birth holds, also where all others have another.
	breaks(t, "Back", example().with(149, api.Record{Kind: 3, Birth: 2, Prev: 109}), 149, 149, 109)
	// At the birth no other than a begin may be.
	breaks(t, "Back", example().with(1, api.Record{Kind: 6, Birth: 1, Prev: 1}), 149, 149, 109, 35, 1)
	breaks(t, "Back", example().with(1, api.Record{Kind: 2, Birth: 1}), 149, 149, 109, 35, 1)
	breaks(t, "Back", example().with(1, api.Record{Kind: 2, Birth: 1}), 1, 1)
}

// P12.1, step 5: Prev is from the birth to the place less 1; nothing is read where it is not.
func TestBackPrev(t *testing.T) {
	l := log{40: {Kind: 1}, 41: {Kind: 2, Birth: 40, Prev: 40}, 99: {Kind: 2, Birth: 40, Prev: 41}, 100: {Kind: 4, Birth: 40, Prev: 99}}
	goes(t, "Back", l, 100, 100, 99, 41, 40)
	for _, prev := range []int{40, 41, 99} {
		l := l.with(100, api.Record{Kind: 4, Birth: 40, Prev: prev})
		goes(t, "Back", l, 100, map[int][]int{40: {100, 40}, 41: {100, 41, 40}, 99: {100, 99, 41, 40}}[prev]...)
	}
	for kind := 2; kind <= 6; kind++ {
		for _, prev := range beyond(40, 100) {
			breaks(t, "Back", l.with(100, api.Record{Kind: kind, Birth: 40, Prev: prev, Next: 41}), 100, 100)
		}
		for _, prev := range beyond(40, 99) {
			breaks(t, "Back", l.with(99, api.Record{Kind: kind, Birth: 40, Prev: prev, Next: 41}), 100, 100, 99)
		}
	}
}

// P12.1, step 5: a compensation's Next plays no part.
func TestBackPassesNoRecord(t *testing.T) {
	for _, next := range []int{0, 1, 35, 109, 149, -1, mostLsn, math.MinInt, math.MaxInt} {
		goes(t, "Back", example().with(149, api.Record{Kind: 3, Birth: 1, Prev: 109, Next: next}), 149, 149, 109, 35, 1)
	}
}
