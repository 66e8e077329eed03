package check_test

import (
	"bytes"
	"math"
	"reflect"
	"testing"

	"tidemark/api"
	"tidemark/room"
)

func TestExamples(t *testing.T) { // P21.1, P21.2
	x := made(t, small())
	x.wantState(State{Turn: 1})
	if at := x.checks(nil, nil); at != 1 {
		t.Errorf("Checkpoint: %d", at)
	}
	x.wantState(State{Turn: 2, Check: 1})

	if birth, lsn := x.begin(3), x.put(3, 8, 5); birth != 36 || lsn != 70 {
		t.Errorf("Begin: %d, Put: %d", birth, lsn)
	}
	at := x.checks([]api.Row{{Birth: 36, Id: 3, State: api.SOpen, Last: 70, Next: 70}}, []api.Rec{{Page: 0, Lsn: 70}})
	if at != 126 {
		t.Errorf("Checkpoint: %d", at)
	}
	x.wantState(State{Turn: 3, Check: 126})
	x.noRenew(api.ErrOpen)

	x.commit(3)
	b := x.l.End() - 1
	if b != 126+70+33+33-1 {
		t.Errorf("the next LSN less one: %d", b)
	}
	x.renews()
	x.wantState(State{Turn: 4, Base: b})
	x.renews()
	x.wantState(State{Turn: 5, Base: b})
	if birth := x.begin(3); birth != b+1 {
		t.Errorf("Begin: %d, want %d", birth, b+1)
	}
}

// Two acts for the log, two for the master, whatever there is to be said.
func TestActsOfACheckpoint(t *testing.T) { // P21.1
	x := made(t, wide())
	x.acts("nothing open", 4, func() { x.checks(nil, nil) })
	birth := x.begin(1)
	lsn := x.put(1, 3, 7)
	rows, dirty := []api.Row{{Birth: birth, Id: 1, State: api.SOpen, Last: lsn, Next: lsn}}, []api.Rec{{Page: 3, Lsn: lsn}}
	x.acts("records in memory", 4, func() { x.checks(rows, dirty) })
	x.acts("again", 4, func() { x.checks(rows, dirty) })
	if !reflect.DeepEqual(x.d.Lasts().Pages[3], make([]byte, 56)) {
		t.Error("a page was written")
	}
	// What is behind the log's beginning is cut by the flush.
	x = made(t, small())
	ok(t, "Append", x.d.Append([]byte{1}))
	x = on(t, x.d, x.s)
	x.acts("bytes behind", 5, func() { x.checks(nil, nil) })
	if x.d.LogLen() != 35 {
		t.Errorf("%d bytes on the disk", x.d.LogLen())
	}
}

// All rows by birth, whatever their numbers are, and in both states; all dirty pages by number, with the first LSN that may be missing.
func TestRowsAndDirtyPages(t *testing.T) { // P21.1
	x := made(t, wide())
	a, b, c := x.begin(64), x.begin(1), x.begin(30)
	b1 := x.put(1, 15, 1)
	a1 := x.put(64, 2, 1)
	x.put(64, 2, 2)
	a3 := x.put(64, 18, 3)
	c1 := x.put(30, 0, 4)
	abort, e := x.l.Append(api.Record{Kind: api.KAbort, Birth: b, Prev: b1})
	ok(t, "Append", e)
	ok(t, "table.Set", x.b.Set(api.Row{Birth: b, Id: 1, State: api.SAborting, Last: abort, Next: b1}))
	rows := []api.Row{
		{Birth: a, Id: 64, State: api.SOpen, Last: a3, Next: a3},
		{Birth: b, Id: 1, State: api.SAborting, Last: abort, Next: b1},
		{Birth: c, Id: 30, State: api.SOpen, Last: c1, Next: c1},
	}
	x.checks(rows, []api.Rec{{Page: 0, Lsn: c1}, {Page: 2, Lsn: a1}, {Page: 15, Lsn: b1}})

	// A page that was written is named no more; one that is changed again then has the later LSN.
	ok(t, "Clean", x.p.Clean(2))
	x.checks(rows, []api.Rec{{Page: 0, Lsn: c1}, {Page: 15, Lsn: b1}})
	a4 := x.put(64, 2, 9)
	rows[0].Last, rows[0].Next = a4, a4
	x.checks(rows, []api.Rec{{Page: 0, Lsn: c1}, {Page: 2, Lsn: a4}, {Page: 15, Lsn: b1}})

	// What is over has no row, and its page is dirty still.
	x.commit(64)
	x.checks(rows[1:], []api.Rec{{Page: 0, Lsn: c1}, {Page: 2, Lsn: a4}, {Page: 15, Lsn: b1}})
	x.abort(1)
	x.checks(rows[2:], []api.Rec{{Page: 0, Lsn: c1}, {Page: 2, Lsn: a4}, {Page: 15, Lsn: b1}})
	x.abort(30)
	ok(t, "CleanAll", x.p.CleanAll())
	x.checks(nil, nil)
}

// As many rows and as many pages as may be.
func TestTheGreatestCheckpoint(t *testing.T) { // P21.1
	x := made(t, wide())
	var rows []api.Row
	var dirty []api.Rec
	for i := range 8 {
		rows = append(rows, api.Row{Birth: x.begin(i + 1), Id: i + 1, State: api.SOpen})
	}
	for i := range 16 {
		lsn := x.put(1+i%8, i, 5)
		rows[i%8].Last, rows[i%8].Next = lsn, lsn
		dirty = append(dirty, api.Rec{Page: i, Lsn: lsn})
	}
	at := x.checks(rows, dirty)
	if x.l.End()-at != 387 {
		t.Errorf("its frame has %d bytes", x.l.End()-at)
	}
}

// What changes behind a checkpoint does not change its record.
func TestTheRecordIsOfItsTime(t *testing.T) { // P21.1
	x := made(t, wide())
	birth := x.begin(3)
	at := x.checks([]api.Row{{Birth: birth, Id: 3, State: api.SOpen, Last: birth}}, nil)
	was, e := x.l.Read(at)
	ok(t, "Read", e)
	x.put(3, 1, 1)
	x.commit(3)
	if now, e := x.l.Read(at); e != api.OK || !reflect.DeepEqual(now, was) {
		t.Errorf("the record became %v, was %v", now, was)
	}
}

// Bases and turns of all sizes: the master says the log's base, and the next turn.
func TestBasesAndTurns(t *testing.T) { // P21.1, P21.2
	for _, base := range []int{0, 1, 255, 5000, 1 << 40, api.MaxLsn - 1<<40} {
		for _, turn := range []int{1, 2, 255, 256, 1 << 40, api.MaxLsn - 1<<40} {
			s := small()
			s.base, s.turn = base, turn
			x := made(t, s)
			x.wantState(State{Turn: turn, Base: base})
			x.checks(nil, nil)
			x.wantState(State{Turn: turn + 1, Base: base, Check: base + 1})
			x.renews()
			x.wantState(State{Turn: turn + 2, Base: base + 35})
			x.checks(nil, nil)
			x.wantState(State{Turn: turn + 3, Base: base + 35, Check: base + 36})
			x.begin(1)
			x.put(1, 1, 1)
			x.commit(1)
			x.renews()
			x.wantState(State{Turn: turn + 4, Base: base + 35 + 35 + 34 + 56 + 33 + 33})
		}
	}
}

// The State is what New was told, whatever the disk has; of its parts the turn alone counts.
func TestTheStateIsTold(t *testing.T) { // P21.1, P21.2
	for _, s := range []State{{}, {Turn: 7, Base: 99, Check: 98}, {Turn: 8, Base: -5, Check: -1}, {Turn: 1, Base: api.MaxLsn + 1, Check: math.MaxInt}} {
		x := made(t, small())
		x.knows(s)
		x.checks(nil, nil)
		x.wantState(State{Turn: s.Turn + 1, Check: 1})
		x = made(t, small())
		x.knows(s)
		x.renews()
		x.wantState(State{Turn: s.Turn + 1})
	}
}

// A turn that has no next one is refused ahead of all that would be done.
func TestTurnsThatMayNotBe(t *testing.T) { // P21.1, P21.2
	for _, turn := range []int{-1, -2, math.MinInt, math.MinInt + 1, api.MaxLsn, math.MaxInt} {
		x := made(t, wide())
		x.begin(3)
		x.put(3, 1, 1)
		x.knows(State{Turn: turn})
		x.noCheckpoint(api.ErrRange)
		x.noRenew(api.ErrOpen)
		x.commit(3)
		x.noCheckpoint(api.ErrRange)
		x.noRenew(api.ErrRange)
	}
}

// fill appends records of no transaction that is open until the log has so many bytes, 118 at least.
func (x *world) fill(want int) {
	x.t.Helper()
	for want-x.l.Bytes() > 150 {
		_, e := x.l.Append(api.Record{Kind: api.KEnd, Birth: 1, Prev: 1})
		ok(x.t, "Append", e)
	}
	n := want - x.l.Bytes() - 46
	_, e := x.l.Append(api.Record{Kind: api.KUndo, Birth: 1, Prev: 1, From: 16, After: make([]byte, n)})
	ok(x.t, "Append", e)
	if x.l.Bytes() != want {
		x.t.Fatalf("%d bytes, want %d", x.l.Bytes(), want)
	}
}

// within gives the Checker a Room of another area, in which all is kept that was.
func (x *world) within(area int) {
	x.t.Helper()
	kept := x.r.Kept()
	x.r = room.New(area)
	for _, row := range x.b.Rows() {
		ok(x.t, "room.Begin", x.r.Begin(row.Birth))
		for _, y := range linesOf(x.l) {
			if y.r.Kind == api.KUpdate && y.r.Birth == row.Birth {
				ok(x.t, "room.Update", x.r.Update(row.Birth, len(y.r.After)))
			}
		}
	}
	if x.r.Kept() != kept {
		x.t.Fatalf("%d kept, want %d", x.r.Kept(), kept)
	}
	x.knows(x.c.State())
}

// The last byte of room counts: with so many bytes used a checkpoint fits just, and with one more it does not.
func TestTheEdgeOfRoom(t *testing.T) { // P21.1
	for rows := range 4 {
		for pages := range 6 {
			for _, over := range []int{-1, 0, 1, 2, 33} {
				x := made(t, wide())
				for i := range rows {
					x.begin(i + 1)
				}
				if rows == 0 {
					x.begin(9)
				}
				for i := range pages {
					x.put(x.b.Rows()[0].Id, i, 5)
				}
				if rows == 0 {
					x.commit(9)
				}
				// A Room whose area leaves just what the checkpoint needs, less over.
				more := 35 + 26*rows + 9*pages
				x.within(x.l.Bytes() + x.r.Kept() + more - over)
				if len(x.b.Rows()) != rows || len(x.p.Dirty()) != pages {
					t.Fatalf("%d rows, %d pages", len(x.b.Rows()), len(x.p.Dirty()))
				}
				if over > 0 {
					x.noCheckpoint(api.ErrLog)
					continue
				}
				if _, e := x.checkpoint(); e != api.OK {
					t.Errorf("%d rows, %d pages, %d over: %d", rows, pages, over, e)
				}
			}
		}
	}
}

// The log's bytes count those in memory, and those ahead of the last one too.
func TestTheEdgeOfTheLog(t *testing.T) { // P21.1
	for _, flushed := range []bool{false, true} {
		for used := 1024 - 35 - 3; used <= 1024-35+3; used++ {
			x := made(t, small())
			x.fill(used)
			if flushed {
				ok(t, "Flush", x.l.Flush(x.l.End()))
			}
			if used > 1024-35 {
				x.noCheckpoint(api.ErrLog)
				continue
			}
			x.checks(nil, nil)
		}
	}
}

// What open transactions keep is left to them.
func TestWhatIsKept(t *testing.T) { // P21.1
	s := small()
	s.table = 8
	x := made(t, s)
	for id := 1; x.r.Fits(x.l.Bytes(), 34, 99); id++ {
		x.begin(id)
	}
	if x.b.Count() != 7 || x.r.Kept() != 693 {
		t.Fatalf("%d open, %d kept", x.b.Count(), x.r.Kept())
	}
	x.noCheckpoint(api.ErrLog) // 238 + 693 + 35 + 26 * 7 = 1148
	x.abort(7)
	x.noCheckpoint(api.ErrLog) // 304 + 594 + 35 + 26 * 6 = 1089
	x.commit(6)
	x.noCheckpoint(api.ErrLog) // 370 + 495 + 35 + 26 * 5 = 1030
	x.commit(5)
	x.checks(x.b.Rows(), nil) // 436 + 396 + 35 + 26 * 4 = 971
}

// A refusal is of its moment: with room again the checkpoint is written.
func TestRoomAgain(t *testing.T) { // P21.1, P21.2
	x := made(t, small())
	x.fill(1000)
	x.noCheckpoint(api.ErrLog)
	x.noCheckpoint(api.ErrLog)
	x.renews()
	x.checks(nil, nil)
	x.wantState(State{Turn: 3, Base: 1000, Check: 1001})
}

// A Room greater than the log's area does not help: the log itself refuses, and nothing has changed.
func TestARoomThatIsTooGreat(t *testing.T) { // P21.1
	s := small()
	s.area = 5000
	x := made(t, s)
	x.fill(1000)
	x.noCheckpoint(api.ErrRoom)
	// One that is too small refuses though the log has room.
	s.area = 34
	x = made(t, s)
	x.noCheckpoint(api.ErrLog)
	s.area = 35
	x = made(t, s)
	x.checks(nil, nil)
	s.area = -1
	x = made(t, s)
	x.noCheckpoint(api.ErrLog)
	x.renews()
}

func TestRenewOfNothing(t *testing.T) { // P21.2
	x := made(t, small())
	for turn := 2; turn < 9; turn++ {
		x.acts("Renew", 3, x.renews)
		x.wantState(State{Turn: turn})
	}
}

// Two acts for what is in memory, four for each dirty page, two for the master, one for the cut.
func TestActsOfARenew(t *testing.T) { // P21.2
	for pages := range 17 {
		x := made(t, wide())
		x.begin(1)
		for number := range pages {
			x.put(1, number, 5)
		}
		x.commit(1) // its end record is in memory
		x.acts("Renew", 2+4*pages+3, x.renews)
	}
	x := made(t, wide())
	x.begin(1)
	x.put(1, 4, 5)
	x.commit(1)
	ok(t, "Flush", x.l.Flush(x.l.End()))
	x.acts("Renew of a flushed log", 4+3, x.renews)
	x.begin(1)
	x.put(1, 4, 6)
	x.commit(1)
	ok(t, "CleanAll", x.p.CleanAll())
	x.acts("Renew of clean pages", 2+3, x.renews)
}

// Records in memory of which no page tells: they are flushed all the same, ahead of the master.
func TestRenewFlushes(t *testing.T) { // P21.2
	x := made(t, small())
	x.begin(1)
	x.abort(1)
	if x.l.Flushed() != 1 {
		t.Fatalf("flushed up to %d", x.l.Flushed())
	}
	d := x.d
	d.Stop(5) // Append, SyncLog, WriteMaster, SyncMasters, and then the cut
	if e := x.c.Renew(); e != api.ErrDead {
		t.Errorf("Renew: %d", e)
	}
	if d.LogLen() != 34+33+33 || len(d.Lasts().Log) != 100 {
		t.Errorf("%d bytes of log, %d last", d.LogLen(), len(d.Lasts().Log))
	}
	if got := newest(t, d.Crash(api.Choice{})); got != (State{Turn: 2, Base: 100}) {
		t.Errorf("the master says %v", got)
	}
}

func TestRenewWhileOpen(t *testing.T) { // P21.2
	for _, state := range []int{api.SOpen, api.SAborting} {
		x := made(t, wide())
		birth := x.begin(5)
		x.put(5, 1, 1)
		row, _ := x.b.Get(birth)
		row.State = state
		ok(t, "table.Set", x.b.Set(row))
		x.noRenew(api.ErrOpen)
		x.begin(6)
		x.noRenew(api.ErrOpen)
		x.abort(5)
		x.noRenew(api.ErrOpen)
		x.commit(6)
		x.renews()
	}
	// A row is what counts, whatever the log, the Room and the locks have.
	x := made(t, wide())
	ok(t, "table.Put", x.b.Put(api.Row{Birth: 1, Id: 1, State: api.SOpen, Last: 1}))
	x.noRenew(api.ErrOpen)
	x = made(t, wide())
	birth := x.begin(5)
	x.put(5, 1, 1)
	x.b.Drop(birth)
	x.renews()
}

// Pages stay in their frames, pinned as often as they were, and are found right on the disk.
func TestRenewLeavesFrames(t *testing.T) { // P21.2
	x := made(t, wide())
	x.begin(5)
	x.put(5, 1, 11)
	x.put(5, 2, 22)
	x.commit(5)
	_, e := x.p.Pin(1, 0)
	ok(t, "Pin", e)
	_, e = x.p.Pin(1, 0)
	ok(t, "Pin", e)
	x.renews()
	if x.pins(1) != 2 || x.pins(2) != 0 {
		t.Errorf("pinned: %d, %d", x.pins(1), x.pins(2))
	}
	x = on(t, x.d.Crash(api.Choice{}), x.s)
	x.begin(5)
	for key, want := range map[int]uint64{1: 11, 2: 22} {
		if v, there, e := x.w.Get(5, key, 0); v != want || !there || e != api.OK {
			t.Errorf("Get(%d): %d, %v, %d", key, v, there, e)
		}
	}
}

// The log's LSNs rise through a Renew, so that pages may be changed on.
func TestOnBehindRenew(t *testing.T) { // P21.2
	x := made(t, small())
	for i := range 20 {
		x.begin(1)
		x.put(1, 8, uint64(i))
		x.commit(1)
		if i%3 == 0 {
			x.checks(nil, []api.Rec{{Page: 0, Lsn: lsnOf(x.page(0))}})
		}
		x.renews()
	}
}

// Two Checkers on two disks share nothing.
func TestTwoCheckers(t *testing.T) { // P21.1
	a, b := made(t, small()), made(t, small())
	a.checks(nil, nil)
	b.wantState(State{Turn: 1})
	b.renews()
	a.wantState(State{Turn: 2, Check: 1})
}

// The master that was newest stands as it is beside the next one.
func TestTheOtherMaster(t *testing.T) { // P21.1, P21.2
	x := made(t, small())
	for i := range 6 {
		was := x.c.State()
		if i%2 == 0 {
			x.checks(nil, nil)
		} else {
			x.renews()
		}
		if got := x.d.Lasts().Masters[was.Turn%2]; !bytes.Equal(got, masterOf(was)) {
			t.Errorf("the master of turn %d: % x", was.Turn, got)
		}
	}
}
