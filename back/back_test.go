package back_test

import (
	"bytes"
	"math"
	"reflect"
	"slices"
	"testing"

	"tidemark/api"
)

func TestTheExample(t *testing.T) { // P20.1, P20.3, P20.4
	x := example(t)
	x.acts(0, func() { x.rolls(1, 2) })
	x.wantLog(append(exampleLog(), exampleBack()...)...)
	x.wantEnd(278)
	x.wantPage(0, sheet(0, 198, make([]byte, 16)...))
	x.wantPage(1, sheet(1, 150, make([]byte, 16)...))
	x.wantKept(1, 0, 0)
	x.wantRows()
	x.wantPins(0, 0)
	if want := []api.Rec{{Page: 0, Lsn: 35}, {Page: 1, Lsn: 75}}; !slices.Equal(x.p.Dirty(), want) {
		t.Errorf("dirty: %v, want %v", x.p.Dirty(), want)
	}
	if x.l.Flushed() != 1 {
		t.Errorf("flushed up to %d", x.l.Flushed())
	}
	x.refused(1, api.ErrTxn)
}

// What a Room keeps of an update leaves with it: a birth that is begun anew has nothing.
func TestTheRoomDropsTheBirth(t *testing.T) { // P20.1
	x := example(t)
	x.rolls(1, 2)
	ok(t, "room.Begin", x.r.Begin(1))
	x.wantKept(1, 99, 99)
	if e := x.r.Undone(1, 1); e != api.ErrRange {
		t.Errorf("Undone: %d", e)
	}
}

// A row's number and birth may be put again.
func TestTheTableDropsTheRow(t *testing.T) { // P20.1
	x := example(t)
	other := x.begin(4)
	x.rolls(1, 2)
	x.wantRows(api.Row{Birth: other, Id: 4, State: api.SOpen, Last: other})
	ok(t, "table.Put", x.b.Put(api.Row{Birth: 1, Id: 3, State: api.SOpen, Last: 1}))
}

func TestJustBegun(t *testing.T) { // P20.1
	for _, base := range []int{0, 7, 100000, api.MaxLsn - 2*api.MostLog} {
		s := small()
		s.base = base
		x := made(t, s)
		birth := x.begin(3)
		x.acts(0, func() { x.rolls(birth, 0) })
		x.wantLog(beginOf(base+1, 3), abortOf(base+35, base+1, base+1), endOf(base+68, base+1, base+35))
		x.wantRows()
		x.wantKept(birth, 0, 0)
		if len(x.p.Held()) != 0 {
			t.Errorf("pages are held: %v", x.p.Held())
		}
		x.refused(birth, api.ErrTxn)
	}
}

// The LSNs are the log's, whatever its base is.
func TestOtherBases(t *testing.T) { // P20.1, P20.3
	for _, base := range []int{1, 5000, api.MaxLsn - 2*api.MostLog} {
		s := small()
		s.base = base
		x := made(t, s)
		birth := x.begin(3)
		u := x.update(birth, 0, 20, 9)
		x.rolls(birth, 1)
		x.wantLog(
			beginOf(base+1, 3),
			updateOf(u, birth, birth, 0, 20, []byte{0}, []byte{9}),
			abortOf(base+75, birth, u),
			undoOf(base+108, birth, base+75, 0, 20, []byte{0}, 0),
			endOf(base+155, birth, base+108))
		x.wantPage(0, sheet(0, base+108, make([]byte, 16)...))
	}
}

// half brings the example to where the abort and the first compensation are there.
func half(t *testing.T) (*world, []line) {
	t.Helper()
	x := example(t)
	x.append(api.Record{Kind: api.KAbort, Birth: 1, Prev: 75})
	c := x.append(api.Record{Kind: api.KUndo, Birth: 1, Prev: 117, Page: 1, From: 24, After: []byte{0, 0}, Next: 35})
	b, e := x.p.Pin(1, 0)
	ok(t, "Pin", e)
	copy(b[24:], []byte{0, 0})
	ok(t, "Change", x.p.Change(1, b, c))
	x.p.Unpin(1)
	ok(t, "Undone", x.r.Undone(1, 2))
	ok(t, "table.Set", x.b.Set(api.Row{Birth: 1, Id: 3, State: api.SAborting, Last: c, Next: 35}))
	return x, linesOf(x.l)
}

func TestGoneOnWith(t *testing.T) { // P20.1: the third example
	x, were := half(t)
	x.acts(0, func() { x.rolls(1, 1) })
	x.wantMore(were, exampleBack()[2:]...)
	x.wantPage(0, sheet(0, 198, make([]byte, 16)...))
	x.wantPage(1, sheet(1, 150, make([]byte, 16)...))
	x.wantRows()
	x.wantKept(1, 0, 0)
}

// Where the abort record is there, and no compensation, no second one is appended.
func TestOneAbortRecord(t *testing.T) { // P20.1
	x := example(t)
	x.append(api.Record{Kind: api.KAbort, Birth: 1, Prev: 75})
	ok(t, "table.Set", x.b.Set(api.Row{Birth: 1, Id: 3, State: api.SAborting, Last: 117, Next: 75}))
	x.rolls(1, 2)
	x.wantLog(append(exampleLog(), exampleBack()...)...)
}

// Where nothing is left to be undone, the end alone is appended.
func TestTheEndAlone(t *testing.T) { // P20.1
	x, were := half(t)
	ok(t, "table.Set", x.b.Set(api.Row{Birth: 1, Id: 3, State: api.SAborting, Last: 150}))
	pages := x.pages()
	x.acts(0, func() { x.rolls(1, 0) })
	x.wantMore(were, endOf(198, 1, 150))
	x.wantRows()
	x.wantKept(1, 0, 0)
	if !reflect.DeepEqual(x.pages(), pages) {
		t.Error("a page has changed")
	}
}

// A row that is open and has nothing to be undone yet keeps its updates.
func TestNextIsNone(t *testing.T) { // P20.1
	x := example(t)
	ok(t, "table.Set", x.b.Set(api.Row{Birth: 1, Id: 3, State: api.SOpen, Last: 75}))
	pages := x.pages()
	x.rolls(1, 0)
	x.wantLog(append(exampleLog(), abortOf(117, 1, 75), endOf(150, 1, 117))...)
	x.wantKept(1, 0, 0)
	if !reflect.DeepEqual(x.pages(), pages) {
		t.Error("a page has changed")
	}
}

func TestNoSuchBirth(t *testing.T) { // P20.1
	x := example(t)
	other := x.begin(64)
	x.update(other, 0, 30, 4)
	births := []int{0, -1, 2, 3, 35, 64, 75, other - 1, other + 1, other + 34, 1<<32 + 1, api.MaxLsn, api.MaxLsn + 1, math.MaxInt, math.MinInt, math.MinInt + 1}
	for _, birth := range births {
		x.refused(birth, api.ErrTxn)
	}
	x = made(t, small())
	for _, birth := range append(births, 1) {
		x.refused(birth, api.ErrTxn)
	}
	// A Room that has the birth, and a log that has its records, make no row.
	x = example(t)
	x.b.Drop(1)
	x.refused(1, api.ErrTxn)
}

// Updates of one page that lie over each other must be undone from the last to the first.
func TestOnePageManyTimes(t *testing.T) { // P20.1, P20.3
	x := made(t, wide())
	first := x.begin(9)
	was := x.update(first, 2, 17, 1, 2, 3, 4, 5, 6, 7, 8)
	x.b.Drop(first) // as a commit would
	x.r.Drop(first)
	ahead := slotsOf(x.page(2))

	birth := x.begin(3)
	u := []int{
		x.update(birth, 2, 17, 11, 12, 13, 14),
		x.update(birth, 2, 19, 21, 22, 23, 24),
		x.update(birth, 2, 17, 31),
		x.update(birth, 2, 18, 41, 42, 43, 44, 45, 46, 47),
	}
	were := linesOf(x.l)
	at := x.l.End()
	x.rolls(birth, 4)
	x.wantMore(were,
		abortOf(at, birth, u[3]),
		undoOf(at+33, birth, at, 2, 18, []byte{12, 21, 22, 23, 24, 7, 8}, u[2]),
		undoOf(at+33+53, birth, at+33, 2, 17, []byte{11}, u[1]),
		undoOf(at+33+53+47, birth, at+33+53, 2, 19, []byte{13, 14, 5, 6}, u[0]),
		undoOf(at+33+53+47+50, birth, at+33+53+47, 2, 17, []byte{1, 2, 3, 4}, 0),
		endOf(at+33+53+47+50+50, birth, at+33+53+47+50))
	x.wantPage(2, sheet(2, at+33+53+47+50, ahead...))
	if was >= at || len(x.p.Held()) != 1 {
		t.Errorf("held: %v", x.p.Held())
	}
}

// Two transactions whose records stand between each other's: each goes back by its own.
func TestOthersBetween(t *testing.T) { // P20.1, P20.3
	x := made(t, wide())
	a, b := x.begin(1), x.begin(2)
	a1 := x.update(a, 0, 16, 1)
	b1 := x.update(b, 1, 16, 2)
	x.append(api.Record{Kind: api.KCheck})
	a2 := x.update(a, 2, 40, 3, 4)
	b2 := x.update(b, 3, 47, 5)
	a3 := x.update(a, 0, 30, 6)
	were, at := linesOf(x.l), x.l.End()
	ones, threes := x.page(1), x.page(3)

	x.rolls(a, 3)
	x.wantMore(were,
		abortOf(at, a, a3),
		undoOf(at+33, a, at, 0, 30, []byte{0}, a2),
		undoOf(at+80, a, at+33, 2, 40, []byte{0, 0}, a1),
		undoOf(at+128, a, at+80, 0, 16, []byte{0}, 0),
		endOf(at+175, a, at+128))
	x.wantPage(0, sheet(0, at+128, make([]byte, 32)...))
	x.wantPage(2, sheet(2, at+80, make([]byte, 32)...))
	x.wantPage(1, ones)
	x.wantPage(3, threes)
	x.wantRows(api.Row{Birth: b, Id: 2, State: api.SOpen, Last: b2, Next: b2})
	x.wantKept(b, 99+47+47, 99+47+47)
	x.refused(a, api.ErrTxn)

	were, at = linesOf(x.l), x.l.End()
	x.rolls(b, 2)
	x.wantMore(were,
		abortOf(at, b, b2),
		undoOf(at+33, b, at, 3, 47, []byte{0}, b1),
		undoOf(at+80, b, at+33, 1, 16, []byte{0}, 0),
		endOf(at+127, b, at+80))
	x.wantRows()
	x.wantKept(b, 0, 0)
}

// An update that a compensation has passed over is not undone again; Next is what follows in the list, not the record ahead.
func TestPassedOver(t *testing.T) { // P20.1
	x := made(t, wide())
	birth := x.begin(3)
	u1 := x.update(birth, 0, 16, 1)
	u2 := x.update(birth, 1, 16, 2)
	c2 := x.append(api.Record{Kind: api.KUndo, Birth: birth, Prev: u2, Page: 1, From: 16, After: []byte{0}, Next: u1})
	ok(t, "Undone", x.r.Undone(birth, 1))
	ok(t, "table.Set", x.b.Set(api.Row{Birth: birth, Id: 3, State: api.SOpen, Last: c2, Next: u1}))
	u3 := x.update(birth, 2, 16, 3)
	were, at, ones := linesOf(x.l), x.l.End(), x.page(1)
	x.rolls(birth, 2)
	x.wantMore(were,
		abortOf(at, birth, u3),
		undoOf(at+33, birth, at, 2, 16, []byte{0}, u1),
		undoOf(at+80, birth, at+33, 0, 16, []byte{0}, 0),
		endOf(at+127, birth, at+80))
	x.wantPage(1, ones)
}

// Each length of a change, at both ends of the slots.
func TestEachLength(t *testing.T) { // P20.1, P20.3
	for _, slots := range []int{1, 3, 8} {
		for n := 1; n <= 16*slots; n++ {
			for _, from := range []int{16, 16 + 16*slots - n} {
				s := wide()
				s.shape.Slots = slots
				x := made(t, s)
				birth := x.begin(3)
				u := x.update(birth, 1, from, bytes.Repeat([]byte{7}, n)...)
				were, at := linesOf(x.l), x.l.End()
				x.rolls(birth, 1)
				x.wantMore(were, abortOf(at, birth, u), undoOf(at+33, birth, at, 1, from, make([]byte, n), 0), endOf(at+33+46+n, birth, at+33))
				x.wantPage(1, sheet(1, at+33, make([]byte, 16*slots)...))
				x.wantKept(birth, 0, 0)
			}
		}
	}
}

// As many updates as a log has room for.
func TestManyUpdates(t *testing.T) { // P20.1, P20.3
	x := made(t, wide())
	birth := x.begin(3)
	n := 0
	for ; x.r.Fits(x.l.Bytes(), 40, 47); n++ {
		number := n % 4
		x.update(birth, number, 16+n%32, x.page(number)[16+n%32]+1)
	}
	if n < 700 {
		t.Fatalf("%d updates alone", n)
	}
	sum, lines := x.l.Bytes()+x.r.Kept(), len(linesOf(x.l))
	x.rolls(birth, n)
	for number := range 4 {
		if !bytes.Equal(slotsOf(x.page(number)), make([]byte, 32)) {
			t.Errorf("page %d: % x", number, x.page(number))
		}
	}
	if got := len(linesOf(x.l)); got != lines+n+2 {
		t.Errorf("%d records more, want %d", got-lines, n+2)
	}
	if got := x.l.Bytes() + x.r.Kept(); got > sum {
		t.Errorf("%d bytes and kept, %d ahead", got, sum)
	}
}

// spread has pages 0 and 1 updated by a transaction and written, and then the frames taken by others: 2, 3 and 4 of six pages.
func spread(t *testing.T) (*world, int) {
	t.Helper()
	x := made(t, setup{shape: api.Shape{Pages: 6, Slots: 1, Log: 2048}, frames: 3, table: 2, area: 2048})
	birth := x.begin(3)
	x.update(birth, 0, 16, 1)
	x.update(birth, 1, 16, 2)
	ok(t, "CleanAll", x.p.CleanAll())
	for _, number := range []int{2, 3, 4} {
		_, e := x.p.Pin(number, 0) // the lowest goes, when no frame is free
		ok(t, "Pin", e)
		x.p.Unpin(number)
	}
	if !slices.Equal(x.p.Held(), []int{2, 3, 4}) {
		t.Fatalf("held: %v", x.p.Held())
	}
	return x, birth
}

// The page that gives up its frame is the one that pick tells.
func TestPick(t *testing.T) { // P20.1
	// Page 1 comes in first: one of 2, 3, 4 goes; then page 0: one of those that are held then.
	for pick, want := range map[int][]int{
		0:            {0, 3, 4}, // 2 goes: 1 3 4; then 1
		1:            {0, 1, 4}, // 3 goes: 1 2 4; then 2
		2:            {0, 1, 2}, // 4 goes: 1 2 3; then 3
		3:            {0, 3, 4},
		-1:           {0, 1, 2},
		-2:           {0, 1, 4},
		-3:           {0, 3, 4},
		math.MaxInt:  {0, 1, 4}, // 2^63 - 1 by its rest modulo 3 is 1
		math.MinInt:  {0, 1, 4}, // -2^63 likewise: 1
		3*1000 + 2:   {0, 1, 2},
		-3*1000 - 2:  {0, 1, 4},
		1<<32 + 1<<1: {0, 3, 4}, // 2^32 is 1, and 2: 0
	} {
		x, birth := spread(t)
		if n, e := x.roll(birth, pick); n != 2 || e != api.OK {
			t.Errorf("Roll with %d: %d, %d", pick, n, e)
		}
		if got := x.p.Held(); !slices.Equal(got, want) {
			t.Errorf("Roll with %d: held %v, want %v", pick, got, want)
		}
	}
}

// A page that is not in a frame is read; a clean one that goes for it costs no act, and nothing is flushed.
func TestReadIn(t *testing.T) { // P20.1, P20.4
	x, birth := spread(t)
	flushed := x.l.Flushed()
	at := x.l.End()
	x.acts(2, func() {
		if n, e := x.roll(birth, 1); n != 2 || e != api.OK {
			t.Errorf("Roll: %d, %d", n, e)
		}
	})
	if x.l.Flushed() != flushed {
		t.Errorf("flushed up to %d, was %d", x.l.Flushed(), flushed)
	}
	x.wantPage(1, sheet(1, at+33, make([]byte, 16)...))
	x.wantPage(0, sheet(0, at+80, make([]byte, 16)...))
	// On the disk they are as they were: nothing is written.
	for number, b := range x.d.Image().Pages[:2] {
		if want := sheet(number, 35+40*number, slotsWith(1, 16, byte(1+number))...); !bytes.Equal(b, want) {
			t.Errorf("page %d on the disk: % x, want % x", number, b, want)
		}
	}
}

// A dirty page that goes is written behind the log up to it, and that is all that is flushed.
func TestWhatThePoolMust(t *testing.T) { // P20.4
	x := made(t, setup{shape: api.Shape{Pages: 4, Slots: 1, Log: 2048}, frames: 2, table: 2, area: 2048})
	birth := x.begin(3)
	x.update(birth, 0, 16, 1)
	x.update(birth, 1, 16, 2)
	x.update(birth, 2, 16, 3) // page 0 goes, behind the log
	if !slices.Equal(x.p.Held(), []int{1, 2}) {
		t.Fatalf("held: %v", x.p.Held())
	}
	at := x.l.End()
	x.acts(7, func() { x.rolls(birth, 3) })
	// The abort and the compensations of 2 and 1 are there when page 1 gives up its frame.
	if want := at + 33 + 47 + 47; x.l.Flushed() != want {
		t.Errorf("flushed up to %d, want %d", x.l.Flushed(), want)
	}
	if got := x.d.Image().Pages[1]; !bytes.Equal(got, sheet(1, at+33+47, make([]byte, 16)...)) {
		t.Errorf("page 1 on the disk: % x", got)
	}
	if got := x.d.Image().Pages[2]; !bytes.Equal(got, make([]byte, 40)) {
		t.Errorf("page 2 is written: % x", got)
	}
	x.wantPage(0, sheet(0, at+33+47+47, make([]byte, 16)...))
}

// Nothing is flushed and no page is written, however much is dirty and in memory.
func TestNothingIsFlushed(t *testing.T) { // P20.4
	x := made(t, wide())
	birth, other := x.begin(3), x.begin(4)
	x.update(birth, 0, 16, 1)
	ok(t, "Flush", x.l.Flush(x.l.End()))
	x.update(birth, 1, 16, 2)
	x.update(other, 2, 16, 2)
	x.update(birth, 0, 17, 3)
	flushed, disk := x.l.Flushed(), x.d.Image()
	x.acts(0, func() { x.rolls(birth, 3) })
	if x.l.Flushed() != flushed || !reflect.DeepEqual(x.d.Image(), disk) {
		t.Errorf("flushed up to %d, was %d", x.l.Flushed(), flushed)
	}
}

// Pins of others stay as many as they were, and the page is changed all the same.
func TestPinsOfOthers(t *testing.T) { // P20.1
	for _, pins := range [][]int{{0, 1}, {2, 0}, {3, 1}} {
		x := example(t)
		for number, n := range pins {
			for range n {
				_, e := x.p.Pin(number, 0)
				ok(t, "Pin", e)
			}
		}
		x.rolls(1, 2)
		x.wantPins(pins...)
		x.wantPage(0, sheet(0, 198, make([]byte, 16)...))
	}
}

// A page that is dirty keeps its rec; one that is clean has the compensation's LSN.
func TestRecs(t *testing.T) { // P20.1
	x := example(t)
	ok(t, "Clean", x.p.Clean(1))
	x.rolls(1, 2)
	if want := []api.Rec{{Page: 0, Lsn: 35}, {Page: 1, Lsn: 150}}; !slices.Equal(x.p.Dirty(), want) {
		t.Errorf("dirty: %v, want %v", x.p.Dirty(), want)
	}
}

// Two worlds share nothing, and one call leaves nothing for the next.
func TestWorldsApart(t *testing.T) { // P20.1
	a, b := example(t), example(t)
	was := b.state()
	a.rolls(1, 2)
	if !reflect.DeepEqual(b.state(), was) {
		t.Error("another world has changed")
	}
	b.rolls(1, 2)
	if !reflect.DeepEqual(a.state(), b.state()) {
		t.Error("two like worlds part")
	}
}
