package look_test

import (
	"math/rand"
	"slices"
	"testing"

	"tidemark/api"
	"tidemark/back"
	"tidemark/check"
	"tidemark/disk"
	"tidemark/lock"
	"tidemark/look"
	"tidemark/master"
	"tidemark/page"
	"tidemark/pool"
	"tidemark/room"
	"tidemark/table"
	"tidemark/wal"
	"tidemark/write"
)

// engine is the layers below, on one disk, as a run uses them.
type engine struct {
	t     *testing.T
	dice  *rand.Rand
	shape api.Shape
	d     *disk.Disk
	l     *wal.Log
	p     *pool.Pool
	k     *lock.Locks
	b     *table.Table
	r     *room.Room
	w     *write.Writer
	c     *check.Checker

	cut   bool          // the disk has died
	won   map[int][]int // by the log's base: births whose commit was OK
	tried map[int][]int // and those whose commit was called
}

func ok(t *testing.T, what string, e api.Errno) {
	t.Helper()
	if e != api.OK {
		t.Fatalf("%s: %d", what, e)
	}
}

func newEngine(t *testing.T, seed int64, stop int) *engine {
	t.Helper()
	r := rand.New(rand.NewSource(seed))
	g := &engine{t: t, dice: r, won: map[int][]int{}, tried: map[int][]int{}, k: lock.New()}
	g.shape = api.Shape{Pages: 1 + r.Intn(6), Slots: 1 + r.Intn(3), Log: 1024 + r.Intn(3000)}
	frames, most, base := 2+r.Intn(3), 1+r.Intn(8), r.Intn(3)*1000
	var e api.Errno
	g.d, e = disk.New(g.shape)
	ok(t, "disk.New", e)
	s, e := master.Next(g.d, master.State{Base: base})
	ok(t, "master.Next", e)
	g.l, e = wal.Open(g.d, base)
	ok(t, "wal.Open", e)
	g.p, e = pool.New(g.d, g.l, frames)
	ok(t, "pool.New", e)
	g.b, e = table.New(most)
	ok(t, "table.New", e)
	g.r = room.New(g.shape.Log)
	g.w = write.New(g.l, g.p, g.k, g.b, g.r, g.shape.Pages, 100)
	g.c = check.New(g.d, g.l, g.p, g.b, g.r, s)
	g.d.Stop(stop)
	return g
}

// lives marks a call in which the disk has died.
func (g *engine) lives(e api.Errno) { g.cut = g.cut || e == api.ErrDead }

func (g *engine) step() {
	id, key, pick := 1+g.dice.Intn(8), g.dice.Intn(30), g.dice.Intn(9)
	row, there := g.b.ById(id)
	switch k := g.dice.Intn(30); {
	case k < 6:
		_, e := g.w.Begin(id)
		g.lives(e)
	case k < 15:
		g.change(row, g.w.Put(id, key, g.dice.Uint64(), pick))
	case k < 18:
		_, e := g.w.Delete(id, key, pick)
		g.change(row, e)
	case k < 19:
		g.lives(g.p.Clean(g.dice.Intn(g.shape.Pages)))
	case k < 20:
		g.lives(g.l.Flush(g.l.End()))
	case k < 24:
		g.commit(id, row, there)
	case k < 26:
		if there {
			g.back(row)
		}
	case k < 28:
		_, e := g.c.Checkpoint()
		g.lives(e)
	default:
		g.lives(g.c.Renew())
	}
}

// change: what has no room goes back.
func (g *engine) change(row api.Row, e api.Errno) {
	g.lives(e)
	if e == api.ErrLog {
		row, _ = g.b.Get(row.Birth)
		g.back(row)
	}
}

func (g *engine) commit(id int, row api.Row, there bool) {
	base := g.l.Base()
	if there {
		g.tried[base] = append(g.tried[base], row.Birth)
	}
	e := g.w.Commit(id)
	g.lives(e)
	if e == api.OK {
		g.won[base] = append(g.won[base], row.Birth)
	}
}

func (g *engine) back(row api.Row) {
	_, e := back.Roll(g.l, g.p, g.b, g.r, row.Birth, 0)
	g.lives(e)
	g.k.Drop(row.Birth)
}

// records gives the log as it is, what is in memory too.
func (g *engine) records() []api.Record {
	var all []api.Record
	for _, r := range g.l.All() {
		all = append(all, r)
	}
	return all
}

// P22.2 to P22.4: each log that a run writes is taken, at each time, and says what the table says.
func TestRunsAreTaken(t *testing.T) {
	losers, checks := 0, 0
	for seed := range int64(100) {
		g := newEngine(t, seed, 0)
		for range 120 {
			g.step()
			base := g.l.Base()
			log := logged(t, base, g.records()...)
			got, e := look.Analyse(log, base, g.c.State().Check, g.shape.Pages, g.shape.Slots)
			if e != api.OK || got.Bytes != len(log) {
				t.Fatalf("seed %d: %d, %d bytes of %d", seed, e, got.Bytes, len(log))
			}
			won := slices.Clone(g.won[base])
			slices.Sort(won)
			if !slices.Equal(got.Rows, g.b.Rows()) || !slices.Equal(got.Winners, won) {
				t.Fatalf("seed %d: %+v, want the rows %v, the winners %v", seed, got, g.b.Rows(), won)
			}
			for _, d := range g.p.Dirty() {
				if d.Lsn < got.Redo {
					t.Fatalf("seed %d: Redo %d, and the page %d lacks %d", seed, got.Redo, d.Page, d.Lsn)
				}
			}
			follows(t, log, base, got)
			losers += len(got.Undo)
			checks += min(1, g.c.State().Check)
		}
		if g.cut {
			t.Fatalf("seed %d: dead", seed)
		}
	}
	if losers < 10000 || checks < 4000 {
		t.Errorf("%d updates to be undone, %d logs with a checkpoint alone", losers, checks)
	}
}

// P22.2 to P22.4: what a crash leaves, at whichever act, is taken; winners are those whose commit was OK, and at most those beside whose commit was called.
func TestCrashesAreTaken(t *testing.T) {
	said := 0
	for seed := range int64(12) {
		for stop := 1; ; stop++ {
			g := newEngine(t, seed, stop)
			for i := 0; i < 70 && !g.cut; i++ {
				g.step()
			}
			if !g.cut {
				break
			}
			for _, log := range []int{0, 1, 40, -1, -2, g.dice.Intn(500)} {
				for _, keep := range [][]int{{0}, {1}, {g.dice.Intn(60), g.dice.Intn(3)}} {
					said += g.crashed(api.Choice{Log: log, Keep: keep})
				}
			}
			if t.Failed() {
				t.Fatalf("seed %d, stop %d", seed, stop)
			}
		}
	}
	if said < 1000 {
		t.Errorf("only %d images with a checkpoint", said)
	}
}

// crashed looks at what a crash leaves, and tells whether its master names a checkpoint.
func (g *engine) crashed(c api.Choice) int {
	g.t.Helper()
	d := g.d.Crash(c)
	s, there, e := master.Newest(d)
	if !there || e != api.OK {
		g.t.Fatalf("Newest: %v, %d", there, e)
	}
	m := d.Image()
	got, e := look.Analyse(m.Log, s.Base, s.Check, g.shape.Pages, g.shape.Slots)
	if e != api.OK {
		g.t.Fatalf("the master %v, %d bytes of log: %d", s, len(m.Log), e)
	}
	for _, b := range got.Winners {
		if !slices.Contains(g.tried[s.Base], b) {
			g.t.Errorf("%d has won, and never called commit", b)
		}
	}
	if s.Base == g.l.Base() {
		for _, b := range g.won[s.Base] {
			if !slices.Contains(got.Winners, b) {
				g.t.Errorf("%d has not won, and its commit was OK", b)
			}
		}
	}
	follows(g.t, m.Log, s.Base, got)
	for number, b := range m.Pages {
		at, e := page.Check(b, number, g.shape.Slots)
		if e != api.OK { // torn: the pair has it
			continue
		}
		g.lacksNothing(m.Log, s.Base, got.Redo, number, at)
	}
	return min(1, s.Check)
}

// lacksNothing looks that a page with that LSN has all its changes that are ahead of Redo.
func (g *engine) lacksNothing(log []byte, base, redo, number, at int) {
	g.t.Helper()
	for _, f := range beginningOf(log, base) {
		if (f.r.Kind == 2 || f.r.Kind == 3) && f.r.Page == number && f.lsn < redo && f.lsn > at {
			g.t.Errorf("Redo %d, and page %d with the LSN %d lacks %d", redo, number, at, f.lsn)
		}
	}
}
