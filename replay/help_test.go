package replay_test

import (
	"bytes"
	"fmt"
	"math/rand"
	"reflect"
	"slices"
	"strings"
	"testing"

	"tidemark/api"
	"tidemark/frame"
	"tidemark/record"
	"tidemark/replay"
)

// The document's numbers.
const (
	mostLsn  = 1 << 60
	mostBase = 1<<60 - 2*65536
	noPages  = api.Errno(40)
	corrupt  = api.Errno(220)
)

// scroll is a log that is being written, record by record.
type scroll struct {
	t    *testing.T
	base int
	log  []byte
	last map[int]int // by birth: the LSN of the transaction's last record
	lsns []int
	all  []api.Record
	ends []int // behind each record: the log's bytes
}

func scrollAt(t *testing.T, base int) *scroll { return &scroll{t: t, base: base, last: map[int]int{}} }

func (s *scroll) next() int { return s.base + len(s.log) + 1 }

// lay frames a record as it is.
func (s *scroll) lay(r api.Record) int {
	s.t.Helper()
	lsn := s.next()
	body, e := record.Bytes(r)
	b, f := frame.Wrap(lsn, body)
	if e != api.OK || f != api.OK {
		s.t.Fatalf("no record: %v: %d, %d", r, e, f)
	}
	s.log = append(s.log, b...)
	s.lsns, s.all, s.ends = append(s.lsns, lsn), append(s.all, r), append(s.ends, len(s.log))
	return lsn
}

// add lays a transaction's record, with the one ahead of it as Prev.
func (s *scroll) add(r api.Record) int {
	s.t.Helper()
	r.Prev = s.last[r.Birth]
	lsn := s.lay(r)
	s.last[r.Birth] = lsn
	return lsn
}

func (s *scroll) begin(id int) int {
	s.t.Helper()
	lsn := s.lay(api.Record{Kind: api.KBegin, Id: id})
	s.last[lsn] = lsn
	return lsn
}

func (s *scroll) update(birth, number, from int, before, after []byte) int {
	s.t.Helper()
	return s.add(api.Record{Kind: api.KUpdate, Birth: birth, Page: number, From: from, Before: before, After: after})
}

func (s *scroll) undo(birth, number, from int, after []byte, next int) int {
	s.t.Helper()
	return s.add(api.Record{Kind: api.KUndo, Birth: birth, Page: number, From: from, After: after, Next: next})
}

func (s *scroll) commit(birth int) int {
	s.t.Helper()
	return s.add(api.Record{Kind: api.KCommit, Birth: birth})
}

func (s *scroll) abort(birth int) int {
	s.t.Helper()
	return s.add(api.Record{Kind: api.KAbort, Birth: birth})
}

func (s *scroll) end(birth int) int {
	s.t.Helper()
	return s.add(api.Record{Kind: api.KEnd, Birth: birth})
}

// history tells the winners a second time: from each commit backwards along its Prevs.
func (s *scroll) history() []replay.Txn {
	at := map[int]api.Record{}
	for i, lsn := range s.lsns {
		at[lsn] = s.all[i]
	}
	var won []replay.Txn
	for i, r := range s.all {
		if r.Kind != api.KCommit {
			continue
		}
		x := replay.Txn{Birth: r.Birth, Id: at[r.Birth].Id, Commit: s.lsns[i]}
		for lsn := r.Prev; lsn != r.Birth; lsn = at[lsn].Prev {
			if u := at[lsn]; u.Kind == api.KUpdate {
				x.Changes = append(x.Changes, replay.Change{Lsn: lsn, Page: u.Page, From: u.From, After: u.After})
			}
		}
		slices.Reverse(x.Changes)
		won = append(won, x)
	}
	return won
}

// lines tells the records a second time, as the chapter's table has them.
func (s *scroll) lines() []string {
	var list []string
	for i, r := range s.all {
		list = append(list, fmt.Sprintf("%d %s", s.lsns[i], told(r)))
	}
	return list
}

func told(r api.Record) string {
	switch r.Kind {
	case 1:
		return fmt.Sprintf("begin %d", r.Id)
	case 2:
		return fmt.Sprintf("update %d %d page %d at %d: %x to %x", r.Birth, r.Prev, r.Page, r.From, r.Before, r.After)
	case 3:
		return fmt.Sprintf("undo %d %d page %d at %d: %x next %d", r.Birth, r.Prev, r.Page, r.From, r.After, r.Next)
	case 7:
		text := "check"
		for _, w := range r.Rows {
			text += fmt.Sprintf(" row %d %d %s %d %d", w.Birth, w.Id, []string{1: "open", 2: "aborting"}[w.State], w.Last, w.Next)
		}
		for _, d := range r.Dirty {
			text += fmt.Sprintf(" rec %d %d", d.Page, d.Lsn)
		}
		return text
	}
	return fmt.Sprintf("%s %d %d", []string{4: "commit", 5: "abort", 6: "end"}[r.Kind], r.Birth, r.Prev)
}

func textOf(lines []string) string {
	var b strings.Builder
	for _, l := range lines {
		b.WriteString(l + "\n")
	}
	return b.String()
}

// laid gives the pages' slots with these changes laid one by one.
func laid(pages [][]byte, changes []replay.Change) [][]byte {
	var left [][]byte
	for _, b := range pages {
		left = append(left, bytes.Clone(slotsOf(b)))
	}
	for _, c := range changes {
		for i, x := range c.After {
			left[c.Page][c.From-16+i] = x
		}
	}
	return left
}

// changesOf gives all changes, one transaction's behind the other's.
func changesOf(list []replay.Txn) []replay.Change {
	var all []replay.Change
	for _, x := range list {
		all = append(all, x.Changes...)
	}
	return all
}

func byLsn(list []replay.Change) []replay.Change {
	all := slices.Clone(list)
	slices.SortFunc(all, func(a, b replay.Change) int { return a.Lsn - b.Lsn })
	return all
}

func slotsOf(b []byte) []byte { return b[16 : len(b)-8] }

// sheets gives so many pages of zeros.
func sheets(n, size int) [][]byte {
	list := make([][]byte, n)
	for i := range list {
		list[i] = make([]byte, size)
	}
	return list
}

// scribbled gives pages of any bytes.
func scribbled(dice *rand.Rand, n, slots int) [][]byte {
	list := sheets(n, 24+16*slots)
	for _, b := range list {
		dice.Read(b)
	}
	return list
}

func sameBytes(a, b [][]byte) bool { return slices.EqualFunc(a, b, bytes.Equal) }

func sameHistory(a, b []replay.Txn) bool {
	return slices.EqualFunc(a, b, func(x, y replay.Txn) bool {
		same := func(c, d replay.Change) bool { return reflect.DeepEqual(c, d) }
		return x.Birth == y.Birth && x.Id == y.Id && x.Commit == y.Commit && slices.EqualFunc(x.Changes, y.Changes, same)
	})
}

// tells has History answer OK and these winners.
func tells(t *testing.T, what string, log []byte, base int, want ...replay.Txn) {
	t.Helper()
	if got, e := replay.History(log, base); e != api.OK || !sameHistory(got, want) {
		t.Errorf("%s: History: %+v, %d, want %+v", what, got, e, want)
	}
}

// leaves has Committed answer OK and these slots.
func leaves(t *testing.T, what string, pages [][]byte, log []byte, base int, want [][]byte) {
	t.Helper()
	if got, e := replay.Committed(pages, log, base); e != api.OK || !sameBytes(got, want) {
		t.Errorf("%s: Committed: % x, %d, want % x", what, got, e, want)
	}
}

// historyRefused has History answer ErrCorrupt, and nothing beside it.
func historyRefused(t *testing.T, what string, log []byte, base int) {
	t.Helper()
	if got, e := replay.History(log, base); e != corrupt || len(got) != 0 {
		t.Errorf("%s: History: %+v, %d, want %d alone", what, got, e, corrupt)
	}
}

// committedRefused has Committed answer that error, and nothing beside it.
func committedRefused(t *testing.T, what string, pages [][]byte, log []byte, base int, want api.Errno) {
	t.Helper()
	if got, e := replay.Committed(pages, log, base); e != want || len(got) != 0 {
		t.Errorf("%s: Committed: % x, %d, want %d alone", what, got, e, want)
	}
}

// reads has Lines and Text tell these lines.
func reads(t *testing.T, what string, log []byte, base int, want ...string) {
	t.Helper()
	seq := replay.Lines(log, base)
	if seq == nil {
		t.Fatalf("%s: Lines: nil", what)
	}
	if got := slices.Collect(seq); !slices.Equal(got, want) {
		t.Errorf("%s: Lines: %q, want %q", what, got, want)
	}
	if got := replay.Text(log, base); got != textOf(want) {
		t.Errorf("%s: Text: %q, want %q", what, got, textOf(want))
	}
}
