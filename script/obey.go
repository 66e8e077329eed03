package script

import (
	"slices"

	"tidemark/api"
	"tidemark/disk"
	"tidemark/duel"
	"tidemark/engine"
	"tidemark/master"
	"tidemark/replay"
	"tidemark/sound"
)

// obey does a command, if there is what it wants.
func (s *Session) obey(c command, given rest) []string {
	d := s.disk()
	switch {
	case c.wants == wantsNothing:
		return s.made(given)
	case c.wants == wantsLeft && s.left != nil:
		return s.opened(given)
	case c.wants == wantsEngine && s.e != nil:
		return s.onEngine(c.name, given)
	case c.wants == wantsDisk && d != nil:
		return s.onDisk(d, c.name, given)
	}
	return refusal(api.ErrClosed)
}

// disk is the engine's own, or else the one that is left; nil, if there is none.
func (s *Session) disk() *disk.Disk {
	if s.e != nil {
		return s.e.Disk()
	}
	return s.left
}

func (s *Session) made(given rest) []string {
	n := given.numbers
	c := api.Config{Shape: api.Shape{Pages: n[0], Slots: n[1], Log: n[2]}, Frames: n[3], Table: n[4], Keys: n[5]}
	e, f := engine.Create(c)
	if f == api.OK {
		*s = Session{e: e, config: c}
	}
	return done(f)
}

// opened takes the disk that is left only where the engine is there: one that was refused may be crashed, or opened once more.
func (s *Session) opened(given rest) []string {
	c := s.config
	c.Frames = given.numbers[0]
	e, r, f := engine.Open(s.left, c, given.manager)
	if f != api.OK {
		return refusal(f)
	}
	s.e, s.left = e, nil
	return openedLine(r)
}

func (s *Session) onEngine(name string, given rest) []string {
	e, n := s.e, given.numbers
	switch name {
	case "begin":
		return done(e.Begin(n[0]))
	case "get":
		return gotLine(e.Get(n[0], n[1], n[2]))
	case "put":
		return done(e.Put(n[0], n[1], given.value, n[2]))
	case "delete":
		return deletedLine(e.Delete(n[0], n[1], n[2]))
	case "commit":
		return done(e.Commit(n[0]))
	case "abort":
		return done(e.Abort(n[0], n[1]))
	case "checkpoint":
		return done(e.Checkpoint())
	case "renew":
		return done(e.Renew())
	case "clean":
		return done(e.Clean(n[0]))
	case "dump":
		return dumpLine(e.Dump())
	case "ids":
		return []string{told("ids", e.Ids()...)}
	case "used":
		bytes, kept := e.Used()
		return []string{told("used", bytes, kept)}
	case "copy":
		s.left = e.Disk().Copy()
		return done(api.OK)
	case "close":
		return done(s.closed())
	}
	return refusal(api.ErrLine)
}

// closed has the engine be gone, and its disk be what is left.
func (s *Session) closed() api.Errno {
	d, f := s.e.Disk(), s.e.Close()
	s.e, s.left = nil, d
	return f
}

func (s *Session) onDisk(d *disk.Disk, name string, given rest) []string {
	n := given.numbers
	switch name {
	case "stop":
		d.Stop(n[0])
		return done(api.OK)
	case "acts":
		return []string{told("acts", d.Acts())}
	case "crash":
		return s.crashed(api.Choice{Log: n[0], Keep: given.list})
	case "sound":
		return []string{told("sound", sound.Check(d.Shape(), d.Lasts()))}
	case "log":
		return logLines(d)
	case "duel":
		return duelLine(duel.Run(d.Shape(), d.Lasts(), n[0]))
	}
	return refusal(api.ErrLine)
}

func (s *Session) crashed(c api.Choice) []string {
	f := api.OK
	if s.e != nil {
		f = s.closed()
	}
	s.left = s.left.Crash(c)
	return done(f)
}

// logLines goes by a copy of the disk: to read its masters is an act, and a question is to leave the disk's acts as they are.
func logLines(d *disk.Disk) []string {
	copied := d.Copy()
	newest, _, f := master.Newest(copied)
	if f != api.OK {
		return refusal(f)
	}
	return slices.Collect(replay.Lines(copied.Image().Log, newest.Base))
}
