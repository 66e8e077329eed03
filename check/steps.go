package check

import (
	"tidemark/api"
	"tidemark/master"
	"tidemark/room"
)

// mayCheck gives the error for which a checkpoint is not so much as begun.
func (c *Checker) mayCheck(r api.Record) api.Errno {
	more := room.Frame(api.KCheck, len(r.Rows), len(r.Dirty))
	if !c.r.Fits(c.l.Bytes(), more, 0) {
		return api.ErrLog
	}
	return c.mayAdvance(c.l.Base(), c.l.End())
}

// mayRenew gives the error for which a log is not so much as begun anew.
func (c *Checker) mayRenew() api.Errno {
	if c.t.Count() > 0 {
		return api.ErrOpen
	}
	return c.mayAdvance(c.l.End()-1, 0)
}

// mayAdvance refuses a master that may not be written ahead of what comes first: its own error would come behind that.
func (c *Checker) mayAdvance(base, check int) api.Errno {
	next := c.after(base, check)
	next.Turn++
	_, e := master.Bytes(next)
	return e
}

// log appends a record, and has it last.
func (c *Checker) log(r api.Record) (int, api.Errno) {
	lsn, e := c.l.Append(r)
	if e != api.OK {
		return 0, e
	}
	return lsn, c.l.Flush(lsn)
}

// settle has the log and all pages last.
func (c *Checker) settle() api.Errno {
	if e := c.l.Flush(c.l.End()); e != api.OK {
		return e
	}
	return c.p.CleanAll()
}

// beginAnew cuts the log behind the master that says its base: a crash between the two leaves frames that do not fit the base, so that the log is empty all the same.
func (c *Checker) beginAnew(base int) api.Errno {
	if e := c.advance(base, 0); e != api.OK {
		return e
	}
	return c.l.Renew(base)
}

// advance writes the next master.
func (c *Checker) advance(base, check int) api.Errno {
	now, e := master.Next(c.d, c.after(base, check))
	if now == (master.State{}) { // no master says that: so none was written
		return e
	}
	c.s = now
	return api.OK
}

// after gives what the next master is to say, with the turn that it follows.
func (c *Checker) after(base, check int) master.State {
	return master.State{Turn: c.s.Turn, Base: base, Check: check}
}

// met hands an answer on, and marks that this Checker has met ErrDead.
func (c *Checker) met(e api.Errno) api.Errno {
	if e == api.ErrDead {
		c.dead = true
	}
	return e
}
