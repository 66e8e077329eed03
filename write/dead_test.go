package write_test

import (
	"testing"

	"tidemark/api"
)

// wantDead looks that each further call answers ErrDead, ahead of all other errors.
func (x *world) wantDead(what string) {
	x.t.Helper()
	acts := x.d.Acts()
	for _, id := range []int{3, 4, 5, 0, 65} {
		if _, e := x.begin(id); e != api.ErrDead {
			x.t.Errorf("%s: Begin(%d): %d, want ErrDead", what, id, e)
		}
		for _, c := range askings() {
			for _, key := range []int{0, 1, 2, -1, x.s.keys} {
				if e := c.do(x, id, key, 0); e != api.ErrDead {
					x.t.Errorf("%s: %s(%d, %d): %d, want ErrDead", what, c.name, id, key, e)
				}
			}
		}
		if e := x.w.Commit(id); e != api.ErrDead {
			x.t.Errorf("%s: Commit(%d): %d, want ErrDead", what, id, e)
		}
	}
	if x.d.Acts() != acts {
		x.t.Errorf("%s: %d acts on a dead disk", what, x.d.Acts()-acts)
	}
}

// busy gives a Writer with two transactions open, all frames taken, and their pages dirty.
func busy(t *testing.T) *world {
	t.Helper()
	x := made(t, wide())
	x.begins(3, 1)
	x.begins(4, 35)
	x.puts(3, 0, 5)
	x.puts(4, 1, 6)
	return x
}

// A pin that reads a page, and writes another for it, takes seven acts; each of them may be the last.
func TestAskingCutAtEachAct(t *testing.T) { // P19.2, P19.4
	for _, c := range askings() {
		for stop := 1; stop <= 7; stop++ {
			x := busy(t)
			x.d.Stop(stop)
			if e := c.do(x, 3, 2, 0); e != api.ErrDead {
				t.Errorf("%s, stopped at act %d: %d", c.name, stop, e)
			}
			x.wantHolder(2, 0)
			x.wantHolder(0, 1)
			x.wantDead(c.name)
		}
		x := busy(t)
		x.d.Stop(8)
		x.acts(c.name, 7, func() {
			if e := c.do(x, 3, 2, 0); e != api.OK {
				t.Errorf("%s: %d", c.name, e)
			}
		})
		x.wantHolder(2, 1)
	}
}

// A page that was held is not given back by ErrDead.
func TestHeldStaysHeldOnADeadDisk(t *testing.T) { // P19.4
	for _, c := range askings() {
		x := busy(t)
		ok(t, "lock.Take", x.k.Take(2, 1))
		x.d.Stop(1)
		if e := c.do(x, 3, 2, 0); e != api.ErrDead {
			t.Errorf("%s: %d", c.name, e)
		}
		x.wantHolder(2, 1)
	}
}

func TestCommitCutAtEachAct(t *testing.T) { // P19.5
	for stop := 1; stop <= 2; stop++ {
		x := busy(t)
		x.d.Stop(stop)
		if e := x.w.Commit(3); e != api.ErrDead {
			t.Errorf("Commit, stopped at act %d: %d", stop, e)
		}
		x.wantDead("Commit")
	}
	x := busy(t)
	x.d.Stop(3)
	x.commits(3)
	if e := x.w.Commit(4); e != api.ErrDead {
		t.Errorf("Commit: %d", e)
	}
	x.wantDead("Commit")
}

// Nobody asks whether the disk is dead: what needs no act answers as ever.
func TestDeadUnasked(t *testing.T) { // P19.1 to P19.5
	x := busy(t)
	x.d.Stop(1)
	if e := x.d.Sync(); e != api.ErrDead {
		t.Fatalf("Sync: %d", e)
	}
	lsn := x.l.End()
	x.begins(5, lsn)
	x.noBegin(5, api.ErrTxn)
	x.gets(3, 0, 5, true)
	x.puts(3, 0, 6)
	x.deletes(4, 1, true)
	x.deletes(4, 4, false)
	x.refused("Get", api.ErrBusy, func() api.Errno {
		_, _, e := x.get(4, 0, 0)
		return e
	})
	x.refused("Commit", api.ErrTxn, func() api.Errno { return x.w.Commit(9) })
	if e := x.w.Commit(5); e != api.ErrDead {
		t.Errorf("Commit: %d", e)
	}
	x.wantDead("a disk that was dead already")
}

// Where another has met ErrDead in the log, this Writer meets it at the first record that it appends, behind all other errors.
func TestALogThatIsDead(t *testing.T) { // P19.1, P19.4, P19.5
	calls := map[string]func(x *world) api.Errno{
		"Begin": func(x *world) api.Errno {
			_, e := x.begin(5)
			return e
		},
		"Put": func(x *world) api.Errno { return x.w.Put(3, 0, 7, 0) },
		"Delete": func(x *world) api.Errno {
			_, e := x.delete(3, 0, 0)
			return e
		},
		"Commit": func(x *world) api.Errno { return x.w.Commit(3) },
	}
	for name, call := range calls {
		x := busy(t)
		x.d.Stop(1)
		if e := x.l.Flush(x.l.End()); e != api.ErrDead {
			t.Fatalf("Flush: %d", e)
		}
		x.noBegin(3, api.ErrTxn)
		x.gets(3, 0, 5, true)
		x.puts(3, 0, 5)
		x.deletes(3, 3, false)
		x.refused("Put", api.ErrBusy, func() api.Errno { return x.w.Put(3, 1, 7, 0) })
		x.refused("Commit", api.ErrTxn, func() api.Errno { return x.w.Commit(9) })
		if e := call(x); e != api.ErrDead {
			t.Errorf("%s: %d", name, e)
		}
		x.wantHolder(0, 1)
		x.wantDead(name)
	}
}

// Room and table are looked at ahead of the record.
func TestRefusedAheadOfADeadLog(t *testing.T) { // P19.1, P19.4
	s := wide()
	s.table, s.area = 2, 2*(34+99)
	x := made(t, s)
	x.begins(3, 1)
	x.d.Stop(2)
	x.gets(3, 0, 0, false)
	if e := x.l.Flush(1); e != api.ErrDead {
		t.Fatalf("Flush: %d", e)
	}
	if e := x.w.Put(3, 0, 1<<63, 0); e != api.ErrDead {
		t.Errorf("Put with room: %d", e)
	}
	x = made(t, s)
	x.begins(3, 1)
	x.begins(4, 35)
	x.d.Stop(2)
	x.gets(3, 0, 0, false)
	if e := x.l.Flush(1); e != api.ErrDead {
		t.Fatalf("Flush: %d", e)
	}
	x.refused("Put", api.ErrLog, func() api.Errno { return x.w.Put(3, 0, 5, 0) })
	x.noBegin(5, api.ErrTable)
	x.wantHolder(0, 1)
}
