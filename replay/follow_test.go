package replay_test

import (
	"strings"
	"testing"

	"tidemark/api"
	"tidemark/look"
	"tidemark/replay"
)

// Logs at random that look takes, against a second telling; in which of the two orders the winners' changes are laid is all one.
func TestRandomLogs(t *testing.T) { // P28.1, P28.2, P28.5
	winners, crossed, others := 0, 0, 0
	for seed := range int64(800) {
		m := made(t, seed, 10+int(seed)%90)
		if _, e := look.Analyse(m.log, m.base, 0, m.pages, m.slots); e != api.OK {
			t.Fatalf("seed %d: %d", seed, e)
		}
		want := m.history()
		tells(t, "at random", m.log, m.base, want...)
		changes := changesOf(want)
		pages := scribbled(m.dice, m.pages, m.slots)
		leaves(t, "one transaction after the other", pages, m.log, m.base, laid(pages, changes))
		leaves(t, "by the updates' LSNs", pages, m.log, m.base, laid(pages, byLsn(changes)))
		winners += len(want)
		for i, c := range changes {
			if i > 0 && changes[i-1].Lsn > c.Lsn {
				crossed++
			}
		}
		for _, r := range m.all {
			if r.Kind == api.KUndo {
				others++
			}
		}
		if t.Failed() {
			t.Fatalf("seed %d", seed)
		}
	}
	if winners < 3000 || crossed < 150 || others < 1500 {
		t.Errorf("only %d winners, %d updates that stand otherwise by commit than by LSN, %d compensations", winners, crossed, others)
	}
}

// A log cut anywhere: those winners whose commit is there yet, and a beginning of the text.
func TestCutAnywhere(t *testing.T) { // P28.5
	for seed := range int64(10) {
		m := made(t, 2000+seed, 40)
		whole, text := m.history(), replay.Text(m.log, m.base)
		pages := scribbled(m.dice, m.pages, m.slots)
		for cut := range len(m.log) + 1 {
			records, commits := 0, 0
			for records < len(m.ends) && m.ends[records] <= cut {
				if m.all[records].Kind == api.KCommit {
					commits++
				}
				records++
			}
			log := m.log[:cut]
			tells(t, "cut", log, m.base, whole[:commits]...)
			leaves(t, "cut", pages, log, m.base, laid(pages, changesOf(whole[:commits])))
			got := replay.Text(log, m.base)
			if got != textOf(m.first(records).lines()) || !strings.HasPrefix(text, got) {
				t.Errorf("cut at %d: Text: %q", cut, got)
			}
			if t.Failed() {
				t.Fatalf("seed %d, %d bytes of %d", seed, cut, len(m.log))
			}
		}
	}
}
