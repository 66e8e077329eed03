package restart_test

import (
	"bytes"
	"math/rand"
	"slices"
	"testing"

	"tidemark/api"
	"tidemark/back"
	"tidemark/check"
	"tidemark/disk"
	"tidemark/lock"
	"tidemark/master"
	"tidemark/pool"
	"tidemark/room"
	"tidemark/scan"
	"tidemark/table"
	"tidemark/wal"
	"tidemark/write"
)

// engine is the layers below, on one disk, as a run uses them.
type engine struct {
	t      *testing.T
	dice   *rand.Rand
	shape  api.Shape
	frames int
	d      *disk.Disk
	l      *wal.Log
	p      *pool.Pool
	k      *lock.Locks
	b      *table.Table
	r      *room.Room
	w      *write.Writer
	c      *check.Checker

	cut  bool             // the disk has died
	base map[int][][]byte // by each base that a master may say: the slots of all pages as they stood there
}

// newEngine gives one on a disk that is new: nothing was done to it yet.
func newEngine(t *testing.T, seed int64) *engine {
	t.Helper()
	r := rand.New(rand.NewSource(seed))
	g := &engine{t: t, dice: r, base: map[int][][]byte{}, frames: 2 + r.Intn(3)}
	g.shape = api.Shape{Pages: 1 + r.Intn(6), Slots: 1 + r.Intn(3), Log: 1024 + r.Intn(3000)}
	var e api.Errno
	g.d, e = disk.New(g.shape)
	ok(t, "disk.New", e)
	var blank [][]byte
	for range g.shape.Pages {
		blank = append(blank, make([]byte, 16*g.shape.Slots))
	}
	g.base[0] = blank
	return g
}

// newOpen gives one that is open.
func newOpen(t *testing.T, seed int64) *engine {
	t.Helper()
	g := newEngine(t, seed)
	_, e := run(t, g.d, g.frames, g.manager())
	ok(t, "Run", e)
	g.open()
	return g
}

// open begins on a disk that a restart has set right.
func (g *engine) open() {
	g.t.Helper()
	s, there, e := master.Newest(g.d)
	if !there || e != api.OK {
		g.t.Fatalf("Newest: %v, %d", there, e)
	}
	g.l, e = wal.Open(g.d, s.Base)
	ok(g.t, "wal.Open", e)
	g.p, e = pool.New(g.d, g.l, g.frames)
	ok(g.t, "pool.New", e)
	g.b, e = table.New(1 + g.dice.Intn(8))
	ok(g.t, "table.New", e)
	g.k, g.r = lock.New(), room.New(g.shape.Log)
	g.w = write.New(g.l, g.p, g.k, g.b, g.r, g.shape.Pages, 100)
	g.c = check.New(g.d, g.l, g.p, g.b, g.r, s)
	g.cut = false
}

// lives marks a call in which the disk has died.
func (g *engine) lives(e api.Errno) { g.cut = g.cut || e == api.ErrDead }

func (g *engine) step() {
	id, key, pick := 1+g.dice.Intn(8), g.dice.Intn(30), g.dice.Intn(9)
	row, there := g.b.ById(id)
	switch k := g.dice.Intn(40); {
	case k < 9:
		_, e := g.w.Begin(id)
		g.lives(e)
	case k < 22:
		g.change(row, g.w.Put(id, key, g.dice.Uint64()>>g.dice.Intn(60), pick))
	case k < 26:
		_, e := g.w.Delete(id, key, pick)
		g.change(row, e)
	case k < 28:
		g.lives(g.p.Clean(g.dice.Intn(g.shape.Pages)))
	case k < 30:
		g.lives(g.l.Flush(g.l.End()))
	case k < 35:
		g.lives(g.w.Commit(id))
	case k < 37:
		if there {
			g.back(row)
		}
	case k < 39:
		_, e := g.c.Checkpoint()
		g.lives(e)
	default:
		g.renew()
	}
}

// change: what has no room goes back.
func (g *engine) change(row api.Row, e api.Errno) {
	g.lives(e)
	if e == api.ErrLog {
		row, _ = g.b.Get(row.Birth)
		g.back(row)
	}
}

func (g *engine) back(row api.Row) {
	_, e := back.Roll(g.l, g.p, g.b, g.r, row.Birth, 0)
	g.lives(e)
	g.k.Drop(row.Birth)
}

func (g *engine) renew() {
	if g.b.Count() == 0 {
		g.base[g.l.End()-1] = g.slots()
	}
	g.lives(g.c.Renew())
}

// slots gives all pages' slots: in their frames, or else on the disk.
func (g *engine) slots() [][]byte {
	pages := g.d.Image().Pages
	for number := range pages {
		if b, is := g.p.Look(number); is {
			pages[number] = b
		}
		pages[number] = slotsOf(pages[number])
	}
	return pages
}

// run goes on till the disk dies, or for so many steps.
func (g *engine) run(steps int) {
	for i := 0; i < steps && !g.cut; i++ {
		g.step()
	}
}

// choice is what a crash may leave.
func (g *engine) choice() api.Choice {
	log := []int{0, -1, g.dice.Intn(60), g.dice.Intn(1000)}[g.dice.Intn(4)]
	keep := [][]int{nil, {1}, {0, 1}, {1, 0}, {g.dice.Intn(150), g.dice.Intn(150)}, {g.dice.Intn(80)}}[g.dice.Intn(6)]
	return api.Choice{Log: log, Keep: keep}
}

// manager picks one of the two.
func (g *engine) manager() int { return []int{api.Aries, api.Choose}[g.dice.Intn(2)] }

// outcome is what a restart of a disk must leave and tell, but for Redone.
type outcome struct {
	slots [][]byte
	r     api.Report
	named master.State
}

// expected tells it of an image that a run reaches, by the log's records alone, and keeps the slots for the base that will be written.
func (g *engine) expected(d *disk.Disk) outcome {
	g.t.Helper()
	s, _, e := master.Newest(d.Copy())
	ok(g.t, "Newest", e)
	at, known := g.base[s.Base]
	if !known {
		g.t.Fatalf("nobody knows the base %d", s.Base)
	}
	all, size := scan.All(d.Image().Log, s.Base)
	o := outcome{slots: [][]byte{}}
	for _, b := range at {
		o.slots = append(o.slots, bytes.Clone(b))
	}
	more := 0
	o.r, more = told(all)
	for _, f := range all {
		if f.R.Kind == api.KUpdate && slices.Contains(o.r.Winners, f.R.Birth) {
			copy(o.slots[f.R.Page][f.R.From-16:], f.R.After)
		}
	}
	o.named = master.State{Turn: s.Turn + 1, Base: s.Base + size + more}
	g.base[o.named.Base] = o.slots
	return o
}

// told gives what a restart must tell of records, and how many bytes it appends.
func told(all []scan.Found) (r api.Report, more int) {
	isOver := map[int]bool{}
	for _, f := range all {
		switch f.R.Kind {
		case api.KCommit:
			r.Winners = append(r.Winners, f.R.Birth)
		case api.KEnd:
			isOver[f.R.Birth] = true
		}
	}
	slices.Sort(r.Winners)
	for _, f := range all {
		if f.R.Kind == api.KBegin && !isOver[f.Lsn] {
			if !slices.Contains(r.Winners, f.Lsn) {
				r.Losers = append(r.Losers, f.Lsn)
			}
			r.Ends++
			more += 33
		}
	}
	for _, f := range all {
		if !slices.Contains(r.Losers, f.R.Birth) {
			continue
		}
		switch f.R.Kind {
		case api.KUpdate:
			r.Undone++
			more += 46 + len(f.R.Before)
		case api.KUndo:
			r.Undone--
			more -= 46 + len(f.R.After)
		}
	}
	return r, more
}

// wantLeft looks at what a restart that has ended left and told.
func (g *engine) wantLeft(d *disk.Disk, r api.Report, o outcome) {
	g.t.Helper()
	left(g.t, d, o.named)
	if !sameButRedone(r, o.r) {
		g.t.Errorf("told %v, want %v", r, o.r)
	}
	g.wantSlots(d, o)
}

func (g *engine) wantSlots(d *disk.Disk, o outcome) {
	g.t.Helper()
	for number, b := range d.Lasts().Pages {
		if !bytes.Equal(slotsOf(b), o.slots[number]) {
			g.t.Errorf("page %d lasts as % x, want % x", number, slotsOf(b), o.slots[number])
		}
	}
}
