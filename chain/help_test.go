package chain_test

import (
	"maps"
	"math"
	"slices"
	"testing"

	"tidemark/api"
	"tidemark/chain"
)

const mostLsn = 1 << 60

// log is what a read reads: records by their LSNs.
type log map[int]api.Record

// with gives a log that has another record at one place.
func (l log) with(lsn int, r api.Record) log {
	m := maps.Clone(l)
	m[lsn] = r
	return m
}

// reader answers the log's records, ErrLsn where there is none, and notes what it is asked.
func (l log) reader(asked *[]int) func(int) (api.Record, api.Errno) {
	return func(lsn int) (api.Record, api.Errno) {
		*asked = append(*asked, lsn)
		if r, there := l[lsn]; there {
			return r, api.OK
		}
		return api.Record{Kind: 2, Birth: 1, Prev: 1}, api.ErrLsn // a record beside an error is none
	}
}

// example is the chapter's log.
func example() log {
	return log{
		1:   {Kind: 1, Id: 1},
		35:  {Kind: 2, Birth: 1, Prev: 1},
		75:  {Kind: 1, Id: 2},
		109: {Kind: 2, Birth: 1, Prev: 35},
		149: {Kind: 3, Birth: 1, Prev: 109, Next: 35},
	}
}

// call is chain.Back or chain.Undo.
type call func(func(int) (api.Record, api.Errno), int) ([]int, api.Errno)

var calls = map[string]call{"Back": chain.Back, "Undo": chain.Undo}

// want looks at an answer, and at the places that were read for it, in their order.
func want(t *testing.T, name string, l log, from int, list []int, e api.Errno, asked []int) {
	t.Helper()
	var got []int
	gotList, gotE := calls[name](l.reader(&got), from)
	if !slices.Equal(gotList, list) || gotE != e || !slices.Equal(got, asked) {
		t.Errorf("%s(%d): %v, %d, read %v; want %v, %d, read %v", name, from, gotList, gotE, got, list, e, asked)
	}
}

// goes looks at an answer that is OK of a walk that reads just what it lists.
func goes(t *testing.T, name string, l log, from int, list ...int) {
	t.Helper()
	want(t, name, l, from, list, api.OK, list)
}

// breaks looks that the answer is ErrChain, behind these reads.
func breaks(t *testing.T, name string, l log, from int, asked ...int) {
	t.Helper()
	want(t, name, l, from, nil, api.ErrChain, asked)
}

// noKinds gives kinds that no record of a transaction has.
func noKinds() []int {
	return []int{0, 7, 8, 9, -1, -2, 255, 257, 258, mostLsn, math.MinInt, math.MinInt + 2, math.MaxInt}
}

// beyond gives numbers that are no place of a chain with this birth below a place.
func beyond(birth, place int) []int {
	return []int{birth - 1, place, place + 1, 0, -1, -birth, -place, mostLsn, math.MinInt, math.MinInt + 1, math.MaxInt}
}
