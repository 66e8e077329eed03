package back_test

import (
	"bytes"
	"slices"
	"testing"

	"tidemark/api"
	"tidemark/disk"
	"tidemark/page"
)

// filled gives the chapter's transaction on a log of so many bytes, behind 1050 bytes of others; its first LSN is 1051.
func filled(t *testing.T, log int) *world {
	t.Helper()
	s := small()
	s.shape.Log, s.area = log, 1<<20
	x := made(t, s)
	for range 30 {
		x.append(api.Record{Kind: api.KCheck})
	}
	birth := x.begin(3)
	x.update(birth, 0, 16, 1)
	x.update(birth, 1, 24, 5, 6)
	return x
}

// moved gives lines of the example as they are on a log that had so many bytes ahead of it.
func moved(by int, lines []line) []line {
	var all []line
	for _, x := range lines {
		x.lsn += by
		for _, n := range []*int{&x.r.Birth, &x.r.Prev, &x.r.Next} {
			if *n > 0 {
				*n += by
			}
		}
		all = append(all, x)
	}
	return all
}

// wantSteps looks that the example has come so far: 0 nowhere, 1 behind the abort, 2 and 3 behind a compensation each; by is how many bytes the log had ahead of it.
func (x *world) wantSteps(by, steps int) {
	x.t.Helper()
	lines := linesOf(x.l)
	own := slices.DeleteFunc(lines, func(a line) bool { return a.r.Kind == api.KCheck })
	if want := moved(by, append(exampleLog(), exampleBack()[:steps]...)); !sameLines(own, want) {
		x.t.Errorf("the log: %v, want %v", own, want)
	}
	x.wantRows([]api.Row{
		{Birth: 1 + by, Id: 3, State: api.SOpen, Last: 75 + by, Next: 75 + by},
		{Birth: 1 + by, Id: 3, State: api.SAborting, Last: 117 + by, Next: 75 + by},
		{Birth: 1 + by, Id: 3, State: api.SAborting, Last: 150 + by, Next: 35 + by},
		{Birth: 1 + by, Id: 3, State: api.SAborting, Last: 198 + by},
	}[steps])
	kept := []int{99 + 47 + 48, 99 + 47 + 48, 99 + 47, 99}[steps]
	x.wantKept(1+by, kept, kept)
	x.wantPages(by, steps)
}

// wantPages looks at the example's pages alone.
func (x *world) wantPages(by, steps int) {
	x.t.Helper()
	zero, one := sheet(0, 35+by, slotsWith(1, 16, 1)...), sheet(1, 75+by, slotsWith(1, 24, 5, 6)...)
	if steps >= 2 {
		one = sheet(1, 150+by, make([]byte, 16)...)
	}
	if steps >= 3 {
		zero = sheet(0, 198+by, make([]byte, 16)...)
	}
	x.wantPage(0, zero)
	x.wantPage(1, one)
}

// The log's end, one byte short of each record: what was done ahead of it stays done.
func TestNoRoomForEachRecord(t *testing.T) { // P20.2
	size := 1050 + 116
	for steps, frame := range []int{33, 48, 47, 33} {
		x := filled(t, size+frame-1)
		x.acts(0, func() { x.fails(1051, api.ErrRoom) })
		x.wantSteps(1050, steps)
		x.wantPins(0, 0)
		x.refused(1051, api.ErrRoom)
		size += frame
	}
	x := filled(t, size)
	x.rolls(1051, 2)
	if x.l.Bytes() != size {
		t.Errorf("%d bytes, want %d", x.l.Bytes(), size)
	}
}

// apart gives the chapter's transaction on a disk of four pages with two frames; its pages last, and are in no frame: 2 and 3 are.
func apart(t *testing.T) *world {
	t.Helper()
	s := small()
	s.shape.Pages = 4
	x := made(t, s)
	x.begin(3)
	x.update(1, 0, 16, 1)
	x.update(1, 1, 24, 5, 6)
	ok(t, "CleanAll", x.p.CleanAll())
	for _, number := range []int{2, 3} {
		x.pin(number)
		x.p.Unpin(number)
	}
	if !slices.Equal(x.p.Held(), []int{2, 3}) {
		t.Fatalf("held: %v", x.p.Held())
	}
	return x
}

func (x *world) pin(number int) {
	x.t.Helper()
	_, e := x.p.Pin(number, 0)
	ok(x.t, "Pin", e)
}

// All frames are pinned: when one is let go, a further Roll goes on where the first one ended.
func TestPinnedFrames(t *testing.T) { // P20.2
	x := apart(t)
	x.pin(2)
	x.pin(3)
	x.acts(0, func() { x.fails(1, api.ErrPinned) })
	x.wantSteps(0, 1)
	x.wantPins(0, 0, 1, 1)
	x.refused(1, api.ErrPinned)
	x.p.Unpin(2)
	x.rolls(1, 2)
	x.wantLog(append(exampleLog(), exampleBack()...)...)
	x.wantPins(0, 0, 0, 1)

	// Page 1 is pinned by another, too: so page 0 finds no frame.
	x = apart(t)
	x.pin(3)
	x.pin(1)
	x.fails(1, api.ErrPinned)
	x.wantSteps(0, 2)
	x.wantPins(0, 1, 0, 1)
	x.p.Unpin(1)
	x.rolls(1, 1)
	x.wantLog(append(exampleLog(), exampleBack()...)...)
	x.wantPages(0, 3)
	x.wantRows()
	x.wantKept(1, 0, 0)
}

// A page that is not right on the disk.
func TestATornPage(t *testing.T) { // P20.2
	for number, steps := range map[int]int{1: 1, 0: 2} {
		x := apart(t)
		whole := x.d.Image().Pages[number]
		torn := bytes.Clone(whole)
		torn[12] ^= 1
		ok(t, "WritePage", x.d.WritePage(number, torn))
		x.fails(1, api.ErrPage)
		ok(t, "WritePage", x.d.WritePage(number, whole))
		x.wantSteps(0, steps)
		x.wantPins(0, 0, 0, 0)
		x.rolls(1, 3-steps)
		x.wantLog(append(exampleLog(), exampleBack()...)...)
	}
}

// An update of a page that the disk does not have: its page is asked for ahead of the compensation.
func TestNoSuchPage(t *testing.T) { // P20.2
	for _, number := range []int{2, 15} {
		x := made(t, small())
		x.begin(3)
		u := x.logUpdate(1, number, 16, []byte{0}, []byte{1})
		were := linesOf(x.l)
		x.fails(1, api.ErrPlace)
		x.wantMore(were, abortOf(75, 1, u))
		x.wantRows(api.Row{Birth: 1, Id: 3, State: api.SAborting, Last: 75, Next: u})
		x.wantKept(1, 99+47, 99+47)
		x.refused(1, api.ErrPlace)
	}
}

// An update of a range that the page does not have: its compensation is in the log by then.
func TestARangeBeyondThePage(t *testing.T) { // P20.2
	for _, at := range []struct{ from, n int }{{40, 1}, {39, 2}, {16, 25}, {143, 1}} {
		x := made(t, small())
		x.begin(3)
		u := x.logUpdate(1, 0, at.from, make([]byte, at.n), bytes.Repeat([]byte{1}, at.n))
		were, end := linesOf(x.l), x.l.End()
		x.fails(1, api.ErrRange)
		x.wantMore(were, abortOf(end, 1, u), undoOf(end+33, 1, end, 0, at.from, make([]byte, at.n), 0))
		x.wantRows(api.Row{Birth: 1, Id: 3, State: api.SAborting, Last: end + 33})
		x.wantKept(1, 99+46+at.n, 99+46+at.n)
		x.wantPage(0, make([]byte, 40))
		x.wantPins(0, 0)
		if len(x.p.Dirty()) != 0 {
			t.Errorf("dirty: %v", x.p.Dirty())
		}
	}
	// What lies in the page's bytes, if behind its slots, is laid: the stamps are laid over it.
	x := made(t, small())
	x.begin(3)
	x.logUpdate(1, 0, 16, bytes.Repeat([]byte{9}, 24), make([]byte, 24))
	x.rolls(1, 1)
	x.wantPage(0, sheet(0, 35+86+33, bytes.Repeat([]byte{9}, 16)...))
}

// A page whose LSN is the compensation's, or above, is not changed.
func TestAPageThatIsAhead(t *testing.T) { // P20.2
	for _, lsn := range []int{107, 108, 109, 5000, api.MaxLsn} {
		s := small()
		d, e := disk.New(s.shape)
		ok(t, "disk.New", e)
		m := d.Image()
		m.Pages[0] = sheet(0, lsn, slotsWith(1, 20, 9)...)
		d, e = disk.Load(s.shape, m)
		ok(t, "disk.Load", e)
		x := on(t, d, s)
		x.begin(3)
		u := x.logUpdate(1, 0, 20, []byte{4}, []byte{9})
		were := linesOf(x.l)
		if lsn < 108 {
			x.rolls(1, 1)
			x.wantPage(0, sheet(0, 108, slotsWith(1, 20, 4)...))
			continue
		}
		x.fails(1, api.ErrLsn)
		x.wantMore(were, abortOf(75, 1, u), undoOf(108, 1, 75, 0, 20, []byte{4}, 0))
		x.wantRows(api.Row{Birth: 1, Id: 3, State: api.SAborting, Last: 108})
		x.wantKept(1, 99+47, 99+47)
		x.wantPage(0, m.Pages[0])
		x.wantPins(0, 0)
	}
}

// A Room that does not know the update, or the birth: it is asked when the page has changed and is let go.
func TestARoomThatLacksTheUpdate(t *testing.T) { // P20.2
	for length, steps := range map[int]int{2: 2, 1: 3} {
		x := example(t)
		ok(t, "Undone", x.r.Undone(1, length))
		ok(t, "Update", x.r.Update(1, 3))
		x.fails(1, api.ErrRange)
		x.wantMore(exampleLog(), exampleBack()[:steps]...)
		x.wantPages(0, steps)
		x.wantRows([]api.Row{{Birth: 1, Id: 3, State: api.SAborting, Last: 150, Next: 35}, {Birth: 1, Id: 3, State: api.SAborting, Last: 198}}[steps-2])
		x.wantPins(0, 0)
	}
	x := example(t)
	ok(t, "room.Drop", x.r.Drop(1))
	x.fails(1, api.ErrTxn)
	x.wantMore(exampleLog(), exampleBack()[:2]...)
	x.wantPages(0, 2)
	x.wantRows(api.Row{Birth: 1, Id: 3, State: api.SAborting, Last: 150, Next: 35})
	x.wantPins(0, 0)
}

// A Room that does not know the birth when all is undone: the end record is there, and the row is gone.
func TestARoomThatLacksTheBirth(t *testing.T) { // P20.2
	x := made(t, small())
	x.begin(3)
	ok(t, "room.Drop", x.r.Drop(1))
	x.fails(1, api.ErrTxn)
	x.wantLog(beginOf(1, 3), abortOf(35, 1, 1), endOf(68, 1, 35))
	x.wantRows()
}

// A row whose Next is no update's LSN: what chain answers, behind the abort.
func TestAChainThatIsNone(t *testing.T) { // P20.2
	for next, want := range map[int]api.Errno{2: api.ErrLsn, 34: api.ErrLsn, 74: api.ErrLsn, 117: api.ErrChain} {
		x := example(t)
		x.append(api.Record{Kind: api.KCheck}) // at 117
		ok(t, "table.Set", x.b.Set(api.Row{Birth: 1, Id: 3, State: api.SOpen, Last: 117, Next: next}))
		were := linesOf(x.l)
		x.fails(1, want)
		x.wantMore(were, abortOf(152, 1, 117))
		x.wantRows(api.Row{Birth: 1, Id: 3, State: api.SAborting, Last: 152, Next: next})
		x.wantPages(0, 0)
		x.wantPins(0, 0)
		x.refused(1, want)
	}
}

// An update further down does not hang together: nothing is undone, as the list is made first.
func TestAChainThatBreaksLater(t *testing.T) { // P20.2
	x := example(t)
	lost := x.append(api.Record{Kind: api.KUpdate, Birth: 1, Prev: 36, Page: 0, From: 17, Before: []byte{0}, After: []byte{7}})
	last := x.append(api.Record{Kind: api.KUpdate, Birth: 1, Prev: lost, Page: 0, From: 18, Before: []byte{0}, After: []byte{7}})
	ok(t, "table.Set", x.b.Set(api.Row{Birth: 1, Id: 3, State: api.SOpen, Last: last, Next: last}))
	were, end := linesOf(x.l), x.l.End()
	x.fails(1, api.ErrLsn)
	x.wantMore(were, abortOf(end, 1, last))
	x.wantPages(0, 0)
	x.wantKept(1, 99+47+48, 99+47+48)
}

// A row that lies beyond the log: the table refuses a Last that is below its birth, or its Next.
func TestARowBeyondTheLog(t *testing.T) { // P20.2
	for _, row := range []api.Row{
		{Birth: 500, Id: 3, State: api.SOpen, Last: 500},
		{Birth: 2, Id: 3, State: api.SOpen, Last: 900, Next: 800},
	} {
		x := made(t, small())
		ok(t, "table.Put", x.b.Put(row))
		ok(t, "room.Begin", x.r.Begin(row.Birth))
		x.fails(row.Birth, api.ErrRange)
		x.wantLog(abortOf(1, row.Birth, row.Last))
		x.wantRows(row)
		x.wantKept(row.Birth, 99, 99)
	}
}

// A row of another birth than its records': the records that are appended have the row's; where the table refuses the next update, as it lies ahead of that birth, the page is let go unchanged.
func TestARowOfAnotherBirth(t *testing.T) { // P20.1, P20.2
	for birth, steps := range map[int]int{34: 3, 36: 2} {
		x := example(t)
		x.b.Drop(1)
		x.r.Drop(1)
		ok(t, "table.Put", x.b.Put(api.Row{Birth: birth, Id: 3, State: api.SOpen, Last: 75, Next: 75}))
		ok(t, "room.Begin", x.r.Begin(birth))
		ok(t, "room.Update", x.r.Update(birth, 1))
		ok(t, "room.Update", x.r.Update(birth, 2))
		more := exampleBack()
		for i := range more {
			more[i].r.Birth = birth
		}
		if steps == 3 {
			x.rolls(birth, 2)
			x.wantMore(exampleLog(), more...)
			x.wantPages(0, 3)
			continue
		}
		x.fails(birth, api.ErrRange)
		x.wantMore(exampleLog(), more[:2]...)
		x.wantRows(api.Row{Birth: birth, Id: 3, State: api.SAborting, Last: 117, Next: 75})
		x.wantPages(0, 0)
		x.wantPins(0, 0)
	}
}

// dirtyApart has the transaction's three pages in two frames, so that a Roll must write one.
func dirtyApart(t *testing.T) *world {
	t.Helper()
	x := made(t, setup{shape: api.Shape{Pages: 4, Slots: 1, Log: 2048}, frames: 2, table: 2, area: 2048})
	x.begin(3)
	x.update(1, 0, 16, 1)
	x.update(1, 1, 16, 2)
	x.update(1, 2, 16, 3)
	x.update(1, 0, 17, 4)
	return x
}

// The fourth example, and each other act at which the disk may die.
func TestCutAtEachAct(t *testing.T) { // P20.2
	whole := dirtyApart(t)
	acts := whole.d.Acts()
	whole.rolls(1, 4)
	acts = whole.d.Acts() - acts
	all := linesOf(whole.l)
	if acts < 14 {
		t.Fatalf("%d acts alone", acts)
	}
	for stop := 1; stop <= acts; stop++ {
		x := dirtyApart(t)
		were := len(linesOf(x.l))
		x.d.Stop(stop)
		x.fails(1, api.ErrDead)
		row, there := x.b.Get(1)
		if !there || row.State != api.SAborting {
			t.Fatalf("stopped at act %d: the row %v, %v", stop, row, there)
		}
		got := linesOf(x.l)
		if len(got) <= were || len(got) >= len(all) || !sameLines(got, all[:len(got)]) {
			t.Errorf("stopped at act %d: the log %v is no beginning of %v", stop, got, all)
		}
		if last := got[len(got)-1]; row.Last != last.lsn || last.r.Kind == api.KUndo && row.Next != last.r.Next {
			t.Errorf("stopped at act %d: the row %v behind %v", stop, row, last)
		}
		rows := x.b.Rows()
		x.acts(0, func() { x.fails(1, api.ErrDead) })
		x.wantRows(rows...)
		if now := linesOf(x.l); !sameLines(now, got) {
			t.Errorf("stopped at act %d: a second Roll appends", stop)
		}
	}
	x := dirtyApart(t)
	x.d.Stop(acts + 1)
	x.rolls(1, 4)
}

// Another has met ErrDead in the log: the first record, or the first that is read, meets it.
func TestADeadLog(t *testing.T) { // P20.2
	dies := func(x *world) {
		x.d.Stop(1)
		if e := x.l.Flush(x.l.End()); e != api.ErrDead {
			t.Fatalf("Flush: %d", e)
		}
	}
	x := example(t)
	dies(x)
	x.refused(1, api.ErrDead)
	x.refused(2, api.ErrTxn)
	x, _ = half(t)
	dies(x)
	x.refused(1, api.ErrDead)
	x, _ = half(t)
	ok(t, "table.Set", x.b.Set(api.Row{Birth: 1, Id: 3, State: api.SAborting, Last: 150}))
	dies(x)
	x.refused(1, api.ErrDead)
}

// Another has met ErrDead in the pool: the first page that is asked for meets it.
func TestADeadPool(t *testing.T) { // P20.2
	x := apart(t)
	x.d.Stop(1)
	if _, e := x.p.Pin(0, 0); e != api.ErrDead {
		t.Fatalf("Pin: %d", e)
	}
	x.fails(1, api.ErrDead)
	x.wantMore(exampleLog(), exampleBack()[:1]...)
	x.wantRows(api.Row{Birth: 1, Id: 3, State: api.SAborting, Last: 117, Next: 75})
	x.wantKept(1, 99+47+48, 99+47+48)
}

// Nobody asks whether the disk is dead: what needs no act goes on as ever.
func TestDeadUnasked(t *testing.T) { // P20.2, P20.4
	x := example(t)
	x.d.Stop(1)
	if e := x.d.Sync(); e != api.ErrDead {
		t.Fatalf("Sync: %d", e)
	}
	x.rolls(1, 2)
	x.wantLog(append(exampleLog(), exampleBack()...)...)
	x.wantPages(0, 3)
}

// Of an engine's transactions ErrDead alone can come: pages that are right, and room that was kept.
func TestKeptRoomSuffices(t *testing.T) { // P20.2
	for _, most := range []int{1, 2, 5} {
		s := setup{shape: api.Shape{Pages: 5, Slots: 2, Log: 1024}, frames: 2, table: 8, area: 1024}
		x := made(t, s)
		var births []int
		for i := range most {
			births = append(births, x.begin(1+i))
		}
		for i := 0; x.r.Fits(x.l.Bytes(), 40, 47); i++ {
			number := i % most
			at := 16 + i%32
			x.update(births[number], number, at, x.page(number)[at]+1)
		}
		for i, birth := range births {
			if _, e := x.roll(birth, i); e != api.OK {
				t.Errorf("Roll(%d): %d", birth, e)
			}
		}
		if x.l.Bytes() > 1024 || x.r.Kept() != 0 {
			t.Errorf("%d bytes, %d kept", x.l.Bytes(), x.r.Kept())
		}
		for number := range 5 {
			b := x.page(number)
			if _, e := page.Check(b, number, 2); e != api.OK || !bytes.Equal(slotsOf(b), make([]byte, 32)) {
				t.Errorf("page %d: % x", number, b)
			}
		}
	}
}
