package replay_test

import (
	"bytes"
	"fmt"
	"iter"
	"math"
	"slices"
	"testing"

	"tidemark/api"
	"tidemark/replay"
)

// Each kind, with the least and the greatest of all that it may have.
func TestEachKind(t *testing.T) { // P28.3, P28.4
	all := make([]byte, 128)
	for i := range all {
		all[i] = byte(i)
	}
	high := make([]byte, 128)
	for i := range high {
		high[i] = byte(128 + i)
	}
	rows := []api.Row{}
	recs := []api.Rec{}
	for i := range 8 {
		rows = append(rows, api.Row{Birth: 10 + i, Id: 1 + 9*i, State: 1 + i%2, Last: 1000 * (i + 1), Next: i / 2 * 100})
	}
	for i := range 16 {
		recs = append(recs, api.Rec{Page: i, Lsn: 1 << (4 * i % 61)})
	}
	list := []struct {
		r    api.Record
		want string
	}{
		{api.Record{Kind: 1, Id: 1}, "begin 1"},
		{api.Record{Kind: 1, Id: 64}, "begin 64"},
		{api.Record{Kind: 2, Birth: 1, Prev: mostLsn, Page: 15, From: 143, Before: []byte{0}, After: []byte{255}}, "update 1 1152921504606846976 page 15 at 143: 00 to ff"},
		{api.Record{Kind: 2, Birth: mostLsn, Prev: 1, From: 16, Before: []byte{0x0a, 7, 0x90}, After: []byte{0xa0, 7, 9}}, "update 1152921504606846976 1 page 0 at 16: 0a0790 to a00709"},
		{api.Record{Kind: 2, Birth: 10, Prev: 20, From: 16, Before: all, After: high}, fmt.Sprintf("update 10 20 page 0 at 16: %x to %x", all, high)},
		{api.Record{Kind: 3, Birth: 1, Prev: 2, Page: 10, From: 100, After: []byte{0xfe, 0x01}}, "undo 1 2 page 10 at 100: fe01 next 0"},
		{api.Record{Kind: 3, Birth: mostLsn, Prev: mostLsn, Page: 1, From: 16, After: high, Next: mostLsn}, fmt.Sprintf("undo 1152921504606846976 1152921504606846976 page 1 at 16: %x next 1152921504606846976", high)},
		{api.Record{Kind: 4, Birth: 1, Prev: 100}, "commit 1 100"},
		{api.Record{Kind: 5, Birth: 100, Prev: 1}, "abort 100 1"},
		{api.Record{Kind: 6, Birth: mostLsn, Prev: 3}, "end 1152921504606846976 3"},
		{api.Record{Kind: 7}, "check"},
		{api.Record{Kind: 7, Rows: rows[1:2]}, "check row 11 10 aborting 2000 0"},
		{api.Record{Kind: 7, Dirty: recs[3:5]}, "check rec 3 4096 rec 4 65536"},
		{api.Record{Kind: 7, Rows: rows[4:6], Dirty: recs[1:2]}, "check row 14 37 open 5000 200 row 15 46 aborting 6000 200 rec 1 16"},
		{api.Record{Kind: 7, Rows: rows, Dirty: recs}, told(api.Record{Kind: 7, Rows: rows, Dirty: recs})},
	}
	for _, base := range []int{0, 99, mostBase, mostBase + 1} {
		s := scrollAt(t, base)
		var want []string
		for _, x := range list {
			lsn := s.lay(x.r)
			want = append(want, fmt.Sprintf("%d %s", lsn, x.want))
			reads(t, "so far", s.log, base, want...)
		}
	}
}

// Each byte has two digits of its own.
func TestEachByte(t *testing.T) { // P28.3
	for x := range 256 {
		s := scrollAt(t, 0)
		s.lay(api.Record{Kind: 2, Birth: 1, Prev: 1, From: 16, Before: []byte{byte(x)}, After: []byte{byte(x + 1)}})
		reads(t, "a byte", s.log, 0, fmt.Sprintf("1 update 1 1 page 0 at 16: %02x to %02x", x, (x+1)%256))
	}
}

// Only the beginning is told; the greatest LSN is one, and what may not be a base has no line.
func TestBeginningAlone(t *testing.T) { // P28.3, P28.4
	s := example(t)
	want := s.lines()
	reads(t, "bytes behind", append(bytes.Clone(s.log), s.log...), 0, want...)
	reads(t, "zeros behind", append(bytes.Clone(s.log), make([]byte, 50)...), 0, want...)
	for i := range s.log {
		n := 0
		for n < len(s.ends) && s.ends[n] <= i {
			n++
		}
		reads(t, "cut", s.log[:i], 0, want[:n]...)
		b := bytes.Clone(s.log)
		b[i] ^= 0x10
		reads(t, "a byte turned", b, 0, want[:n]...)
	}
	for _, base := range []int{-1, 1, 34, mostLsn, mostLsn + 1, math.MinInt, math.MaxInt} {
		reads(t, "another base", s.log, base)
	}
	last := scrollAt(t, mostLsn-1)
	last.begin(9)
	reads(t, "the greatest LSN", last.log, mostLsn-1, "1152921504606846976 begin 9")
}

// The lines are those of the log as it was at the call, each time from the first on, however often, within one another, and left early.
func TestGoneOverAgain(t *testing.T) { // P28.3
	s := example(t)
	want := s.lines()
	seq := replay.Lines(s.log, 0)
	clear(s.log)
	for left := range len(want) {
		var got []string
		for l := range seq {
			got = append(got, l)
			if len(got) > left {
				break
			}
		}
		if !slices.Equal(got, want[:left+1]) {
			t.Errorf("left behind %d: %q", left, got)
		}
	}
	var got []string
	for l := range seq {
		got = append(got, l)
		if inner := slices.Collect(seq); !slices.Equal(inner, want) {
			t.Errorf("within itself: %q", inner)
		}
	}
	if !slices.Equal(got, want) {
		t.Errorf("around itself: %q", got)
	}
	next, stop := iter.Pull(seq)
	for i := range 3 {
		if l, there := next(); l != want[i] || !there {
			t.Errorf("pulled: %q, %v, want %q", l, there, want[i])
		}
	}
	stop()
	reads(t, "the log as it is now", s.log, 0)
}

// Behind a false nothing more is handed out.
func TestLeftEarly(t *testing.T) { // P28.3
	s := example(t)
	for stop := 1; stop <= 5; stop++ {
		calls := 0
		replay.Lines(s.log, 0)(func(string) bool {
			calls++
			return calls < stop
		})
		if calls != stop {
			t.Errorf("left at line %d: %d lines", stop, calls)
		}
	}
}

// Whether the records keep look's rules is not asked: what stands in logs at random, each record as it is.
func TestWhateverTheySay(t *testing.T) { // P28.3, P28.4
	refused := 0
	for seed := range int64(60) {
		m := made(t, 100+seed, 30)
		reads(t, "a right log", m.log, m.base, m.lines()...)
		s := scrollAt(t, m.base)
		for _, i := range m.dice.Perm(len(m.all)) {
			s.lay(m.all[i])
		}
		reads(t, "in another order", s.log, s.base, s.lines()...)
		if _, e := replay.History(s.log, s.base); e == corrupt {
			refused++
		}
	}
	if refused < 50 {
		t.Errorf("only %d are refused", refused)
	}
}
