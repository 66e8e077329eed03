package choose_test

import (
	"bytes"
	"reflect"
	"testing"

	"tidemark/api"
)

// filled gives a fresh loser with two updates and a winner with one, behind 910 bytes of checkpoints, on a log area of so many bytes.
func filled(t *testing.T, area int) *world {
	t.Helper()
	s := small()
	s.shape.Log = area
	x := made(t, s)
	for range 26 {
		x.append(api.Record{Kind: api.KCheck})
	}
	a := x.begin(1)
	x.update(a, 0, 16, 9)
	b := x.begin(2)
	x.update(b, 1, 16, 1)
	x.update(a, 0, 20, 2)
	x.commit(b)
	return x
}

func TestNoRoomForEachRecord(t *testing.T) { // P24.2: aries.Run's errors are Run's; a compensation needs its room where nothing is laid, too
	whole := filled(t, 4096)
	size, were := whole.l.Bytes(), len(linesOf(whole.l))
	_, e := whole.run(whole.find(0))
	ok(t, "Run", e)
	all := linesOf(whole.l)
	for i, frame := range []int{48, 55, 33, 33} {
		x := filled(t, size+frame-1)
		x.fails(x.find(0), api.ErrRoom)
		if got := linesOf(x.l); !sameLines(got, all[:were+i]) {
			t.Errorf("record %d has no room: the log %v, want %v", i, got, all[:were+i])
		}
		x.wantPage(0, make([]byte, 56))
		x.wantPage(1, sheet(1, 1035, slotsWith(2, 16, 1)...))
		x.wantNoPins()
		size += frame
	}
	x := filled(t, size)
	x.runs(x.find(0), api.Report{Winners: []int{1001}, Losers: []int{911}, Redone: 1, Undone: 2, Ends: 2})
	if x.l.Bytes() != size {
		t.Errorf("%d bytes, want %d", x.l.Bytes(), size)
	}
}

// apart gives a log whose fresh loser changed pages 0 to 2, on a disk of five pages with two frames, which pages 3 and 4 are in; what the updates left lasts up to an LSN.
func apart(t *testing.T, upTo int) (*world, []int) {
	t.Helper()
	x := made(t, setup{shape: api.Shape{Pages: 5, Slots: 1, Log: 2048}, frames: 2})
	a := x.begin(1)
	var lsns []int
	for number := range 3 {
		lsns = append(lsns, x.update(a, number, 16+number, 1+number))
	}
	for number := range 3 {
		x.lasting(number, upTo)
	}
	for _, number := range []int{3, 4} {
		x.pin(number)
		x.p.Unpin(number)
	}
	return x, lsns
}

func TestPinnedFrames(t *testing.T) { // P24.2: a page is pinned even where nothing is laid
	x, _ := apart(t, 0)
	x.pin(3)
	x.pin(4)
	was, were := x.state(), linesOf(x.l)
	x.fails(x.find(0), api.ErrPinned)
	x.wantMore(were)
	if !reflect.DeepEqual(x.state(), was) {
		t.Errorf("%v became %v", was, x.state())
	}
	// With one frame let go all is done.
	x.p.Unpin(4)
	x.runs(x.find(0), api.Report{Losers: []int{1}, Undone: 3, Ends: 1})
	if !x.isPinned(3) {
		t.Errorf("page 3 is not pinned any more")
	}
}

func TestATornPage(t *testing.T) { // P24.2
	for number := range 3 {
		x, _ := apart(t, 0)
		ok(t, "WritePage", x.d.WritePage(number, bytes.Repeat([]byte{7}, 40)))
		were := linesOf(x.l)
		x.fails(x.find(0), api.ErrPage)
		x.wantMore(were)
		x.wantNoPins()
		if got := x.p.Dirty(); len(got) != 0 {
			t.Errorf("dirty: %v", got)
		}
	}
}

func TestNoSuchPage(t *testing.T) { // P24.2: the disk has fewer pages than the log speaks of
	x := made(t, small())
	a := x.begin(1)
	u := x.append(api.Record{Kind: api.KUpdate, Birth: a, Page: 2, From: 16, Before: []byte{0}, After: []byte{1}})
	found, were := x.findFor(0, 3, 2), linesOf(x.l)
	x.fails(found, api.ErrPlace)
	x.wantMore(were)
	found.Redo = u + 40 // redo passes it over: undo meets it ahead of its record
	x.fails(found, api.ErrPlace)
	x.wantMore(were)
}

func TestARangeBeyondThePage(t *testing.T) { // P24.1, P24.2: where nothing is laid, the page is not asked for a range that it does not have
	for _, at := range []struct{ from, n int }{{56, 1}, {55, 2}, {16, 41}, {143, 1}} {
		x := made(t, small())
		a := x.begin(1)
		u := x.append(api.Record{Kind: api.KUpdate, Birth: a, Page: 1, From: at.from, Before: make([]byte, at.n), After: bytes.Repeat([]byte{1}, at.n)})
		found, were, end := x.findFor(0, 2, 8), linesOf(x.l), x.l.End()
		ok(t, "Flush", x.l.Flush(end))
		y := x.anew()
		x.runs(found, api.Report{Losers: []int{a}, Undone: 1, Ends: 1})
		x.wantPage(1, make([]byte, 56))
		x.wantNoPins()
		// A page that says that it has it is asked, behind the record.
		there := sheet(1, u, make([]byte, 32)...)
		ok(t, "WritePage", y.d.WritePage(1, there))
		y.fails(found, api.ErrRange)
		y.wantMore(were, undoOf(end, a, u, 1, at.from, make([]byte, at.n), 0))
		y.wantPage(1, there)
		y.wantNoPins()
	}
}

func TestAPageThatIsAhead(t *testing.T) { // P24.1, P24.2: of a page that no run leaves
	were := linesOf(example(t, 0, 0).l)
	for _, at := range []int{198, 199, 1 << 60} {
		x := example(t, 0, 0)
		ahead := sheet(0, at, bytes.Repeat([]byte{3}, 32)...)
		ok(t, "WritePage", x.d.WritePage(0, ahead))
		x.fails(exampleFound(), api.ErrLsn)
		x.wantMore(were, exampleMore()[0])
		x.wantPage(0, ahead)
		x.wantPage(1, sheet(1, 125, slotsWith(2, 16, 1)...))
		x.wantNoPins()
	}
	for _, at := range []int{1, 34, 35, 36, 197} {
		x := example(t, 0, 0)
		was := bytes.Repeat([]byte{3}, 32)
		ok(t, "WritePage", x.d.WritePage(0, sheet(0, at, was...)))
		x.runs(exampleFound(), api.Report{Winners: []int{91}, Losers: []int{1}, Redone: 1, Undone: 1, Ends: 2})
		x.wantMore(were, exampleMore()...)
		if at < 35 {
			x.wantPage(0, sheet(0, at, was...))
			continue
		}
		x.wantPage(0, sheet(0, 198, append(make([]byte, 9), was[9:]...)...))
	}
}

func TestCutAtEachAct(t *testing.T) { // P24.2: ErrDead, and what was done so far stays done
	for _, upTo := range []int{0, 1 << 60} {
		whole, _ := apart(t, upTo)
		acts, were := whole.d.Acts(), len(linesOf(whole.l))
		whole.runs(whole.find(0), api.Report{Losers: []int{1}, Undone: 3, Ends: 1})
		acts = whole.d.Acts() - acts
		all := linesOf(whole.l)
		// Three pages are read, and two again; where nothing is laid, nothing is written.
		if upTo == 0 && acts != 5 || upTo > 0 && acts <= 5 {
			t.Fatalf("%d acts", acts)
		}
		for stop := 1; stop <= acts; stop++ {
			x, _ := apart(t, upTo)
			found := x.find(0)
			x.d.Stop(stop)
			x.fails(found, api.ErrDead)
			got := linesOf(x.l)
			if len(got) < were || len(got) >= len(all) || !sameLines(got, all[:len(got)]) {
				t.Errorf("stopped at act %d: the log %v is no beginning of %v", stop, got, all)
			}
			x.wantNoPins()
			// It stays dead.
			x.fails(found, api.ErrDead)
			x.wantMore(got)
		}
		x, _ := apart(t, upTo)
		found := x.find(0)
		x.d.Stop(acts + 1)
		x.runs(found, api.Report{Losers: []int{1}, Undone: 3, Ends: 1})
	}
}

func TestDeadUnasked(t *testing.T) { // P24.2: nobody asks whether the disk is dead: what needs no act goes on as ever
	x := example(t, 0, 0)
	for number := range 2 {
		x.pin(number)
		x.p.Unpin(number)
	}
	x.d.Stop(1)
	if e := x.d.Sync(); e != api.ErrDead {
		t.Fatalf("Sync: %d", e)
	}
	were := linesOf(x.l)
	x.runs(exampleFound(), api.Report{Winners: []int{91}, Losers: []int{1}, Redone: 1, Undone: 1, Ends: 2})
	x.wantMore(were, exampleMore()...)
}
