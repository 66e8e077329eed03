package check_test

import (
	"testing"

	"tidemark/api"
	"tidemark/pair"
	"tidemark/wal"
)

// wantDead looks that each further call answers ErrDead, ahead of all other errors, and does nothing.
func (x *world) wantDead(what string) {
	x.t.Helper()
	acts, end := x.d.Acts(), x.l.End()
	for range 2 {
		if _, e := x.checkpoint(); e != api.ErrDead {
			x.t.Errorf("%s: Checkpoint: %d, want ErrDead", what, e)
		}
		if e := x.c.Renew(); e != api.ErrDead {
			x.t.Errorf("%s: Renew: %d, want ErrDead", what, e)
		}
	}
	if x.d.Acts() != acts || x.l.End() != end {
		x.t.Errorf("%s: %d acts, and the log's end was %d, is %d", what, x.d.Acts()-acts, end, x.l.End())
	}
}

// busy has a checkpoint behind it, one transaction that is over, and one that is open; two pages are dirty, and a part of the log is in memory.
func busy(t *testing.T) *world {
	t.Helper()
	x := made(t, wide())
	x.begin(1)
	x.put(1, 1, 5)
	x.checks(x.b.Rows(), x.p.Dirty())
	x.commit(1)
	x.begin(2)
	x.put(2, 2, 6)
	return x
}

// idle is as busy, but that nothing is open.
func idle(t *testing.T) *world {
	t.Helper()
	x := busy(t)
	x.abort(2)
	return x
}

func TestCheckpointCutAtEachAct(t *testing.T) { // P21.3
	for stop := 1; stop <= 4; stop++ {
		x := busy(t)
		x.within(x.l.Bytes() + x.r.Kept() + 35 + 26 + 18) // so that a second one would lack room
		x.d.Stop(stop)
		x.acts("Checkpoint", stop-1, func() {
			if _, e := x.checkpoint(); e != api.ErrDead {
				t.Errorf("Checkpoint, stopped at act %d: %d", stop, e)
			}
		})
		x.wantDead("Checkpoint")
	}
	x := busy(t)
	x.d.Stop(5)
	x.checks(x.b.Rows(), x.p.Dirty())
	if _, e := x.checkpoint(); e != api.ErrDead {
		t.Errorf("Checkpoint on a stopped disk: %d", e)
	}
	x.wantDead("Checkpoint")
}

func TestRenewCutAtEachAct(t *testing.T) { // P21.3
	const acts = 2 + 2*4 + 3
	for stop := 1; stop <= acts; stop++ {
		x := idle(t)
		x.d.Stop(stop)
		x.acts("Renew", stop-1, func() {
			if e := x.c.Renew(); e != api.ErrDead {
				t.Errorf("Renew, stopped at act %d: %d", stop, e)
			}
		})
		x.wantDead("Renew")
		ok(t, "table.Put", x.b.Put(api.Row{Birth: 1, Id: 1, State: api.SOpen, Last: 1}))
		x.wantDead("Renew, with a row")
	}
	x := idle(t)
	x.d.Stop(acts + 1)
	x.renews()
	if e := x.c.Renew(); e != api.ErrDead {
		t.Errorf("Renew on a stopped disk: %d", e)
	}
	x.wantDead("Renew")
}

// Nobody asks whether the disk is dead: what is refused ahead of any act is refused as ever.
func TestDeadUnasked(t *testing.T) { // P21.1, P21.2, P21.3
	x := busy(t)
	x.within(x.l.Bytes() + x.r.Kept())
	x.d.Stop(1)
	if e := x.d.Sync(); e != api.ErrDead {
		t.Fatalf("Sync: %d", e)
	}
	x.noCheckpoint(api.ErrLog)
	x.noRenew(api.ErrOpen)
	x.within(65536)
	if _, e := x.checkpoint(); e != api.ErrDead {
		t.Errorf("Checkpoint: %d", e)
	}
	x.wantDead("a disk that was dead already")
}

// Where another has met ErrDead in the log, this Checker meets it there, behind its own errors.
func TestALogThatIsDead(t *testing.T) { // P21.3
	dead := func(x *world) *world {
		x.d.Stop(1)
		if e := x.l.Flush(x.l.End()); e != api.ErrDead {
			t.Fatalf("Flush: %d", e)
		}
		return x
	}
	x := dead(busy(t))
	x.noRenew(api.ErrOpen)
	if _, e := x.checkpoint(); e != api.ErrDead {
		t.Errorf("Checkpoint: %d", e)
	}
	x.wantDead("Checkpoint")
	x = dead(idle(t))
	if e := x.c.Renew(); e != api.ErrDead {
		t.Errorf("Renew: %d", e)
	}
	x.wantDead("Renew")
}

// Where another has met ErrDead in the pool, Renew meets it there, though nothing is dirty.
func TestAPoolThatIsDead(t *testing.T) { // P21.3
	x := made(t, small())
	x.d.Stop(1)
	if _, e := x.p.Pin(0, 0); e != api.ErrDead {
		t.Fatalf("Pin: %d", e)
	}
	if e := x.c.Renew(); e != api.ErrDead {
		t.Errorf("Renew: %d", e)
	}
	x.wantDead("Renew")
}

// choices are crashes that lose, keep and tear.
func choices(long int) []api.Choice {
	var all []api.Choice
	for _, log := range []int{0, 1, long / 2, long - 1, -1, -2, -34} {
		for _, keep := range [][]int{nil, {1}, {2}, {9}, {20}, {33}, {40}, {41}, {0, 1}, {1, 0}, {1, 25}} {
			all = append(all, api.Choice{Log: log, Keep: keep})
		}
	}
	return all
}

// left is what a crash leaves: what the newest master says, the log's records by its base, the disk's pages behind a repair.
type left struct {
	says  State
	lines []line
	pages [][]byte
}

func (x *world) crash(c api.Choice) left {
	x.t.Helper()
	d := x.d.Crash(c)
	says := newest(x.t, d)
	if _, e := pair.Repair(d); e != api.OK {
		x.t.Fatalf("Repair: %d", e)
	}
	l, e := wal.Open(d, says.Base)
	ok(x.t, "wal.Open", e)
	return left{says, linesOf(l), d.Image().Pages}
}

func TestACheckpointThatIsCutLeaves(t *testing.T) { // P21.4
	for stop := 1; stop <= 4; stop++ {
		for _, c := range choices(150) {
			x := busy(t)
			old, before, flushed := x.c.State(), linesOf(x.l), x.l.Flushed()
			at := x.l.End()
			record := api.Record{Kind: api.KCheck, Rows: x.b.Rows(), Dirty: x.p.Dirty()}
			all := append(before, line{at, record})
			x.d.Stop(stop)
			x.checkpoint()
			y := x.crash(c)
			if n := len(y.lines); n > len(all) || !sameLines(y.lines, all[:n]) {
				t.Fatalf("stop %d, %v: the log %v is no beginning of %v", stop, c, y.lines, all)
			} else if n < len(all) && (all[n].lsn < flushed || stop > 2) {
				t.Errorf("stop %d, %v: %d records are left of %d", stop, c, n, len(all))
			}
			want := old
			// The turn at the end has one byte that is not zero: with 33 bytes the new master is whole.
			if stop == 4 && len(c.Keep) > 0 && (c.Keep[0] == 1 || c.Keep[0] >= 34) {
				want = State{Turn: old.Turn + 1, Check: at}
			}
			if y.says != want {
				t.Errorf("stop %d, %v: the master says %v, want %v", stop, c, y.says, want)
			}
			// Nothing writes a page.
			for number, b := range y.pages {
				if lsnOf(b) != 0 {
					t.Errorf("page %d is written", number)
				}
			}
		}
	}
}

func TestARenewThatIsCutLeaves(t *testing.T) { // P21.4
	const acts = 2 + 2*4 + 3
	for stop := 1; stop <= acts; stop++ {
		for _, c := range choices(200) {
			x := idle(t)
			old, all, flushed, pages, b := x.c.State(), linesOf(x.l), x.l.Flushed(), x.pages(), x.l.End()-1
			x.d.Stop(stop)
			x.c.Renew()
			y := x.crash(c)
			if y.says != old {
				if y.says != (State{Turn: old.Turn + 1, Base: b}) || stop < acts-1 || len(y.lines) != 0 {
					t.Errorf("stop %d, %v: the master says %v; %v", stop, c, y.says, y.lines)
				}
				wantSame(t, y.pages, pages)
				continue
			}
			if stop == acts {
				t.Errorf("the cut of the log, %v: the master says %v", c, y.says)
			}
			n := len(y.lines)
			if n > len(all) || !sameLines(y.lines, all[:n]) {
				t.Fatalf("stop %d, %v: the log %v is no beginning of %v", stop, c, y.lines, all)
			}
			if n < len(all) && (all[n].lsn < flushed || stop > 2) {
				t.Errorf("stop %d, %v: %d records are left of %d", stop, c, n, len(all))
			}
			if stop >= acts-2 {
				wantSame(t, y.pages, pages)
			}
			if stop <= 2 {
				for number, b := range y.pages {
					if lsnOf(b) != 0 {
						t.Errorf("stop %d: page %d is written ahead of the log", stop, number)
					}
				}
			}
		}
	}
}

func wantSame(t *testing.T, got, want [][]byte) {
	t.Helper()
	for number := range want {
		if string(got[number]) != string(want[number]) {
			t.Errorf("page %d: % x, want % x", number, got[number], want[number])
		}
	}
}
