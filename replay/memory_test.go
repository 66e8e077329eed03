package replay_test

import (
	"bytes"
	"slices"
	"testing"

	"tidemark/api"
	"tidemark/replay"
)

// roomy copies bytes, with spare room behind them that is not zeros.
func roomy(b []byte) []byte {
	return append(bytes.Clone(b), 5, 5, 5, 5, 5, 5, 5, 5, 5)[: len(b) : len(b)+9]
}

func whole(b []byte) []byte { return b[:cap(b)] }

// What is handed in stays as it is, its spare room too.
func TestArgumentsStay(t *testing.T) { // P28.6
	for seed := range int64(50) {
		m := made(t, 3000+seed, 40)
		log, was := roomy(m.log), roomy(m.log)
		pages, were := make([][]byte, 0, m.pages+1), [][]byte{}
		for _, b := range scribbled(m.dice, m.pages, m.slots) {
			pages, were = append(pages, roomy(b)), append(were, roomy(b))
		}
		spare := []byte{7}
		pages = append(pages, spare)[:m.pages]
		replay.History(log, m.base)
		replay.Committed(pages, log, m.base)
		replay.Text(log, m.base)
		for range replay.Lines(log, m.base) {
		}
		if !bytes.Equal(whole(log), whole(was)) {
			t.Errorf("seed %d: the log has changed", seed)
		}
		for i, b := range pages {
			if !bytes.Equal(whole(b), whole(were[i])) {
				t.Errorf("seed %d: page %d has changed", seed, i)
			}
		}
		if got := pages[:m.pages+1][m.pages]; !bytes.Equal(got, []byte{7}) {
			t.Errorf("seed %d: the pages' spare room has changed", seed)
		}
	}
}

// What is handed in is not kept: what was answered stays, whatever becomes of the arguments.
func TestArgumentsAreNotKept(t *testing.T) { // P28.6
	m := made(t, 3, 60)
	pages := scribbled(m.dice, m.pages, m.slots)
	want, left := m.history(), laid(pages, changesOf(m.history()))
	log := bytes.Clone(m.log)
	h, e := replay.History(log, m.base)
	c, f := replay.Committed(pages, log, m.base)
	text := replay.Text(log, m.base)
	clear(log)
	for i := range pages {
		clear(pages[i])
		pages[i] = nil
	}
	if e != api.OK || f != api.OK || !sameHistory(h, want) || !sameBytes(c, left) || text != textOf(m.lines()) {
		t.Error("an answer has changed with its arguments")
	}
	if len(want) < 3 || len(changesOf(want)) < 10 {
		t.Errorf("only %d winners", len(want))
	}
}

// No two lists of one answer share memory, spare room too; nor do two answers.
func TestListsOfTheirOwn(t *testing.T) { // P28.6
	for seed := range int64(20) {
		m := made(t, 4000+seed, 60)
		pages := scribbled(m.dice, m.pages, m.slots)
		want := m.history()
		scribbleHistory(t, m, want)
		left := laid(pages, changesOf(want))
		got, _ := replay.Committed(pages, m.log, m.base)
		if spare := got[len(got):cap(got)]; len(spare) > 0 {
			spare[0] = []byte{1}
		}
		for i, b := range got {
			if !bytes.Equal(b, left[i]) {
				t.Errorf("seed %d: page %d has changed with another", seed, i)
			}
			fill(whole(b))
		}
		tells(t, "again", m.log, m.base, want...)
		leaves(t, "again", pages, m.log, m.base, left)
	}
}

// scribbleHistory changes each list of an answer, to the end of its room, and looks that the next one is as it was.
func scribbleHistory(t *testing.T, m *maker, want []replay.Txn) {
	t.Helper()
	got, _ := replay.History(m.log, m.base)
	if spare := got[len(got):cap(got)]; len(spare) > 0 {
		spare[0].Birth = -1
	}
	for i := range got {
		if !sameHistory(got[i:i+1], want[i:i+1]) {
			t.Errorf("transaction %d has changed with another", i)
		}
		changes := got[i].Changes
		for k := range changes {
			if !bytes.Equal(changes[k].After, want[i].Changes[k].After) {
				t.Errorf("change %d of %d has changed with another", k, i)
			}
			fill(whole(changes[k].After))
		}
		all := changes[:cap(changes)]
		for k := range all {
			all[k] = replay.Change{Lsn: -1}
		}
	}
}

func fill(b []byte) {
	for i := range b {
		b[i] = 0xee
	}
}

// The second answer is the first one: nothing is kept from call to call.
func TestTwice(t *testing.T) { // P28.6; DOC.md, rule 2
	a, b := made(t, 11, 50), made(t, 12, 50)
	first := slices.Collect(replay.Lines(a.log, a.base))
	for range 3 {
		for _, m := range []*maker{b, a} {
			tells(t, "again", m.log, m.base, m.history()...)
			reads(t, "again", m.log, m.base, m.lines()...)
		}
	}
	if !slices.Equal(first, a.lines()) {
		t.Error("the lines have changed")
	}
}
