package aries_test

import (
	"bytes"
	"reflect"
	"slices"
	"testing"

	"tidemark/api"
	"tidemark/aries"
	"tidemark/look"
)

// filled gives a loser with two updates and a winner with one, behind 910 bytes of checkpoints, on a log area of so many bytes.
func filled(t *testing.T, area int) *world {
	t.Helper()
	s := small()
	s.shape.Log = area
	x := made(t, s)
	for range 26 {
		x.append(api.Record{Kind: api.KCheck})
	}
	a := x.begin(1)
	x.update(a, 0, 16, 9)
	b := x.begin(2)
	x.update(b, 1, 16, 1)
	x.update(a, 0, 20, 2)
	x.commit(b)
	return x
}

func TestNoRoomForEachRecord(t *testing.T) { // P23.5: the log's end, one byte short of each record
	whole := filled(t, 4096)
	size, were := whole.l.Bytes(), len(linesOf(whole.l))
	_, e := whole.run(whole.find(0), aries.Plain{})
	ok(t, "Run", e)
	all := linesOf(whole.l)
	for i, frame := range []int{48, 55, 33, 33} {
		x := filled(t, size+frame-1)
		s := plainly()
		x.fails(x.find(0), s, api.ErrRoom)
		if got := linesOf(x.l); !sameLines(got, all[:were+i]) {
			t.Errorf("record %d has no room: the log %v, want %v", i, got, all[:were+i])
		}
		if len(s.asked) != 3+min(i, 2) {
			t.Errorf("record %d has no room: asked %v", i, s.asked)
		}
		for number := range 2 {
			at, slots := x.told(number, x.l.End())
			x.wantPage(number, sheet(number, at, slots...))
		}
		x.wantNoPins()
		size += frame
	}
	x := filled(t, size)
	x.runs(x.find(0), aries.Plain{}, api.Report{Winners: []int{1001}, Losers: []int{911}, Redone: 3, Undone: 2, Ends: 2})
	if x.l.Bytes() != size {
		t.Errorf("%d bytes, want %d", x.l.Bytes(), size)
	}
}

// apart gives a log whose loser changed pages 0 to 2, on a disk of five pages with two frames, which pages 3 and 4 are in; what the updates left lasts up to an LSN.
func apart(t *testing.T, upTo int) (*world, []int) {
	t.Helper()
	x := made(t, setup{shape: api.Shape{Pages: 5, Slots: 1, Log: 2048}, frames: 2})
	a := x.begin(1)
	var lsns []int
	for number := range 3 {
		lsns = append(lsns, x.update(a, number, 16+number, 1+number))
	}
	for number := range 3 {
		x.lasting(number, upTo)
	}
	for _, number := range []int{3, 4} {
		x.pin(number)
		x.p.Unpin(number)
	}
	return x, lsns
}

func TestPinnedFrames(t *testing.T) { // P23.5: all frames are pinned by others
	x, _ := apart(t, 0)
	x.pin(3)
	x.pin(4)
	was, s := x.state(), plainly()
	x.fails(x.find(0), s, api.ErrPinned)
	if !reflect.DeepEqual(x.state(), was) || len(s.asked) != 0 {
		t.Errorf("asked %v, and %v became %v", s.asked, was, x.state())
	}
	// With one frame let go all is done as ever.
	x.p.Unpin(4)
	x.runs(x.find(0), aries.Plain{}, api.Report{Losers: []int{1}, Redone: 3, Undone: 3, Ends: 1})
	if !x.isPinned(3) {
		t.Errorf("page 3 is not pinned any more")
	}

	// Redo has what it needs in the frames, undo has not.
	y, lsns := apart(t, 0)
	s = &spy{lay: yes}
	s.redo = func(lsn int, r api.Record, page int) bool {
		if lsn == lsns[2] { // pages 1 and 2 stay: so page 0 finds no frame
			y.pin(1)
			y.pin(2)
		}
		return true
	}
	were := linesOf(y.l)
	y.fails(y.find(0), s, api.ErrPinned)
	end := were[len(were)-1].lsn + 44
	y.wantMore(were, undoOf(end, 1, lsns[2], 2, 18, make([]byte, 3), lsns[1]), undoOf(end+49, 1, end, 1, 17, make([]byte, 2), lsns[0]))
	y.wantPage(1, sheet(1, end+49, make([]byte, 16)...))
	y.wantPage(2, sheet(2, end, make([]byte, 16)...))
	y.wantPage(0, sheet(0, lsns[0], slotsWith(1, 16, 1)...))
}

func TestATornPage(t *testing.T) { // P23.5: a page that is not right on the disk, at each step
	for number, redone := range []int{0, 1, 2} {
		x, lsns := apart(t, 0)
		ok(t, "WritePage", x.d.WritePage(number, bytes.Repeat([]byte{7}, 40)))
		were, s := linesOf(x.l), plainly()
		x.fails(x.find(0), s, api.ErrPage)
		x.wantMore(were)
		if len(s.asked) != redone {
			t.Errorf("page %d is torn: asked %v", number, s.asked)
		}
		for i := range redone {
			x.wantPage(i, sheet(i, lsns[i], slotsWith(1, 16+i, bytes.Repeat([]byte{1}, 1+i)...)...))
		}
		x.wantNoPins()
	}
	// Page 0 is torn when redo has passed it, and gave up its frame.
	x, lsns := apart(t, 0)
	s := plainly()
	s.lay = func(lsn int, r api.Record, page int) bool {
		if lsn == lsns[1] {
			ok(t, "WritePage", x.d.WritePage(0, bytes.Repeat([]byte{7}, 40)))
		}
		return true
	}
	were := linesOf(x.l)
	x.fails(x.find(0), s, api.ErrPage)
	end := were[len(were)-1].lsn + 44
	x.wantMore(were, undoOf(end, 1, lsns[2], 2, 18, make([]byte, 3), lsns[1]), undoOf(end+49, 1, end, 1, 17, make([]byte, 2), lsns[0]))
	x.wantNoPins()
}

// foundFor asks what the log says of a disk with more pages, or of more slots.
func (x *world) foundFor(pages, slots int) look.Result {
	x.t.Helper()
	found, e := look.Analyse(x.bytes(), x.l.Base(), 0, pages, slots)
	ok(x.t, "Analyse", e)
	return found
}

func TestNoSuchPage(t *testing.T) { // P23.5: the disk has fewer pages than the log speaks of
	x := made(t, small())
	a := x.begin(1)
	u := x.append(api.Record{Kind: api.KUpdate, Birth: a, Page: 2, From: 16, Before: []byte{0}, After: []byte{1}})
	found, were := x.foundFor(3, 2), linesOf(x.l)
	x.fails(found, aries.Plain{}, api.ErrPlace)
	x.wantMore(were)
	found.Redo = u + 40 // redo passes it over: undo meets it ahead of its record
	x.fails(found, aries.Plain{}, api.ErrPlace)
	x.wantMore(were)
}

func TestARangeBeyondThePage(t *testing.T) { // P23.5: the disk has smaller pages than the log speaks of
	for _, at := range []struct{ from, n int }{{56, 1}, {55, 2}, {16, 41}, {143, 1}} {
		x := made(t, small())
		a := x.begin(1)
		u := x.append(api.Record{Kind: api.KUpdate, Birth: a, Page: 1, From: at.from, Before: make([]byte, at.n), After: bytes.Repeat([]byte{1}, at.n)})
		found, were, end := x.foundFor(2, 8), linesOf(x.l), x.l.End()
		x.fails(found, aries.Plain{}, api.ErrRange)
		x.wantMore(were)
		x.wantNoPins()
		// Where redo does not lay it, undo has written its record by then.
		s := &spy{redo: no, lay: yes}
		x.fails(found, s, api.ErrRange)
		x.wantMore(were, undoOf(end, a, u, 1, at.from, make([]byte, at.n), 0))
		x.wantPage(1, make([]byte, 56))
		x.wantNoPins()
		// Where nothing is laid, the page is not asked for a range that it does not have.
		x = made(t, small())
		a = x.begin(1)
		x.append(were[1].r)
		x.runs(found, never(), api.Report{Losers: []int{a}, Undone: 1, Ends: 1})
	}
}

func TestAPageThatIsAhead(t *testing.T) { // P23.5: an LSN that a page may not be changed with
	x := example(t, 0, 125)
	were := linesOf(x.l)
	s := &spy{redo: yes, lay: yes}
	x.fails(exampleFound(), s, api.ErrLsn)
	x.wantMore(were)
	x.wantPage(0, sheet(0, 35, slotsWith(2, 16, 1, 0, 0, 0, 8, 0, 0, 0, 5)...))
	x.wantPage(1, sheet(1, 125, slotsWith(2, 16, 1)...))
	if len(s.asked) != 2 {
		t.Errorf("asked %v", s.asked)
	}
	x.wantNoPins()

	// A page whose LSN the log has not come to: the compensation is in the log by then.
	for _, at := range []int{198, 199, 1 << 60} {
		x = example(t, 0, 0)
		ahead := sheet(0, at, bytes.Repeat([]byte{3}, 32)...)
		ok(t, "WritePage", x.d.WritePage(0, ahead))
		x.fails(exampleFound(), aries.Plain{}, api.ErrLsn)
		x.wantMore(were, exampleMore()[0])
		x.wantPage(0, ahead)
		x.wantPage(1, sheet(1, 125, slotsWith(2, 16, 1)...))
		x.wantNoPins()
	}
	x = example(t, 0, 0)
	ok(t, "WritePage", x.d.WritePage(0, sheet(0, 197, bytes.Repeat([]byte{3}, 32)...)))
	x.runs(exampleFound(), aries.Plain{}, api.Report{Winners: []int{91}, Losers: []int{1}, Redone: 1, Undone: 1, Ends: 2})
	x.wantPage(0, sheet(0, 198, append(make([]byte, 9), bytes.Repeat([]byte{3}, 23)...)...))
}

func TestCutAtEachAct(t *testing.T) { // P23.5: ErrDead, and what was done so far stays done
	whole, _ := apart(t, 0)
	acts, were := whole.d.Acts(), len(linesOf(whole.l))
	w := plainly()
	_, e := whole.run(whole.find(0), w)
	ok(t, "Run", e)
	acts = whole.d.Acts() - acts
	all := linesOf(whole.l)
	if acts < 20 {
		t.Fatalf("%d acts alone", acts)
	}
	asked := 0
	for stop := 1; stop <= acts; stop++ {
		x, _ := apart(t, 0)
		found, s := x.find(0), plainly()
		x.d.Stop(stop)
		x.fails(found, s, api.ErrDead)
		got := linesOf(x.l)
		if len(got) < were || len(got) >= len(all) || !sameLines(got, all[:len(got)]) {
			t.Errorf("stopped at act %d: the log %v is no beginning of %v", stop, got, all)
		}
		if len(s.asked) < asked || !sameQuestions(s.asked, w.asked[:len(s.asked)]) {
			t.Errorf("stopped at act %d: asked %v", stop, s.asked)
		}
		asked = len(s.asked)
		x.wantNoPins()
		// It stays dead.
		again := plainly()
		x.fails(found, again, api.ErrDead)
		if now := linesOf(x.l); !sameLines(now, got) {
			t.Errorf("stopped at act %d: a second Run appends", stop)
		}
	}
	x, _ := apart(t, 0)
	found := x.find(0)
	x.d.Stop(acts + 1)
	x.runs(found, aries.Plain{}, api.Report{Losers: []int{1}, Redone: 3, Undone: 3, Ends: 1})
}

func TestADeadLog(t *testing.T) { // P23.5: another has met ErrDead in the log
	x := example(t, 0, 0)
	x.pin(0)
	x.pin(1)
	x.append(api.Record{Kind: api.KCheck})
	x.d.Stop(1)
	if e := x.l.Flush(x.l.End()); e != api.ErrDead {
		t.Fatalf("Flush: %d", e)
	}
	were := linesOf(x.l)
	for _, undo := range [][]int{{35}, nil} { // it is met by what is read, or by what is appended
		found := exampleFound()
		found.Undo = undo
		x.fails(found, aries.Plain{}, api.ErrDead)
		x.wantMore(were)
		x.wantPage(0, sheet(0, 35, slotsWith(2, 16, 1, 0, 0, 0, 8, 0, 0, 0, 5)...))
		x.wantPage(1, sheet(1, 125, slotsWith(2, 16, 1)...))
	}
}

func TestADeadPool(t *testing.T) { // P23.5: another has met ErrDead in the pool
	x := example(t, 0, 0)
	x.d.Stop(1)
	if _, e := x.p.Pin(0, 0); e != api.ErrDead {
		t.Fatalf("Pin: %d", e)
	}
	were, s := linesOf(x.l), plainly()
	x.fails(exampleFound(), s, api.ErrDead)
	found := exampleFound()
	found.Redo = 198
	x.fails(found, s, api.ErrDead)
	x.wantMore(were)
	if len(s.asked) != 0 {
		t.Errorf("asked %v", s.asked)
	}
}

func TestDeadUnasked(t *testing.T) { // P23.5: nobody asks whether the disk is dead: what needs no act goes on as ever
	x := example(t, 0, 0)
	for number := range 2 {
		x.pin(number)
		x.p.Unpin(number)
	}
	x.d.Stop(1)
	if e := x.d.Sync(); e != api.ErrDead {
		t.Fatalf("Sync: %d", e)
	}
	were := linesOf(x.l)
	x.runs(exampleFound(), aries.Plain{}, api.Report{Winners: []int{91}, Losers: []int{1}, Redone: 2, Undone: 1, Ends: 2})
	x.wantMore(were, exampleMore()...)
}

// panicking are steps that give up at an LSN.
func panicking(at int) *spy {
	s := plainly()
	for _, f := range []*func(int, api.Record, int) bool{&s.redo, &s.lay} {
		answer := *f
		*f = func(lsn int, r api.Record, page int) bool {
			if lsn == at && (f == &s.lay || at != 35) {
				panic("steps")
			}
			return answer(lsn, r, page)
		}
	}
	return s
}

func TestStepsThatAnswerNothing(t *testing.T) { // DOC.md's rule 1: no call panics
	x := example(t, 0, 0)
	were := linesOf(x.l)
	x.fails(exampleFound(), nil, api.ErrCorrupt)
	x.wantMore(were)
	var none *spy
	x.fails(exampleFound(), none, api.ErrCorrupt)
	x.wantMore(were)
	x.wantNoPins()
	if len(x.p.Dirty()) != 0 {
		t.Errorf("dirty: %v", x.p.Dirty())
	}
	x.fails(exampleFound(), panicking(125), api.ErrCorrupt)
	x.wantMore(were)
	x.wantPage(0, sheet(0, 35, slotsWith(2, 16, 1, 0, 0, 0, 8, 0, 0, 0, 5)...))
	x.wantPage(1, make([]byte, 56))
	x.wantNoPins()
	x.fails(exampleFound(), panicking(35), api.ErrCorrupt)
	x.wantMore(were, exampleMore()[0])
	x.wantPage(0, sheet(0, 35, slotsWith(2, 16, 1, 0, 0, 0, 8, 0, 0, 0, 5)...))
	x.wantNoPins()
	// Steps that are not asked need not answer.
	y := made(t, small())
	a := y.begin(1)
	y.runs(y.find(0), nil, api.Report{Losers: []int{a}, Ends: 1})
	if lines := linesOf(y.l); !slices.EqualFunc(lines[1:], []line{endOf(35, a, a)}, sameLine) {
		t.Errorf("the log: %v", lines)
	}
}
