package aries_test

import (
	"bytes"
	"math/rand"
	"reflect"
	"slices"
	"testing"

	"tidemark/api"
	"tidemark/aries"
	"tidemark/back"
	"tidemark/check"
	"tidemark/disk"
	"tidemark/lock"
	"tidemark/look"
	"tidemark/master"
	"tidemark/pair"
	"tidemark/pool"
	"tidemark/room"
	"tidemark/scan"
	"tidemark/table"
	"tidemark/wal"
	"tidemark/write"
)

// engine is the layers below, on one disk, as a run uses them; with restarts by hand, as layer 25 does them.
type engine struct {
	t      *testing.T
	dice   *rand.Rand
	shape  api.Shape
	frames int
	d      *disk.Disk
	l      *wal.Log
	p      *pool.Pool
	k      *lock.Locks
	b      *table.Table
	r      *room.Room
	w      *write.Writer
	c      *check.Checker

	cut  bool             // the disk has died
	base map[int][][]byte // by each base that a master may say: the slots of all pages as they stood there
}

func newEngine(t *testing.T, seed int64) *engine {
	t.Helper()
	r := rand.New(rand.NewSource(seed))
	g := &engine{t: t, dice: r, base: map[int][][]byte{}, frames: 2 + r.Intn(3)}
	g.shape = api.Shape{Pages: 1 + r.Intn(6), Slots: 1 + r.Intn(3), Log: 1024 + r.Intn(3000)}
	var e api.Errno
	g.d, e = disk.New(g.shape)
	ok(t, "disk.New", e)
	s, e := master.Next(g.d, master.State{Base: r.Intn(2) * 1000})
	ok(t, "master.Next", e)
	var blank [][]byte
	for range g.shape.Pages {
		blank = append(blank, make([]byte, 16*g.shape.Slots))
	}
	g.base[s.Base] = blank
	g.open(s)
	return g
}

// open begins on a disk whose log has no records.
func (g *engine) open(s master.State) {
	g.t.Helper()
	var e api.Errno
	g.l, e = wal.Open(g.d, s.Base)
	ok(g.t, "wal.Open", e)
	g.p, e = pool.New(g.d, g.l, g.frames)
	ok(g.t, "pool.New", e)
	g.b, e = table.New(1 + g.dice.Intn(8))
	ok(g.t, "table.New", e)
	g.k, g.r = lock.New(), room.New(g.shape.Log)
	g.w = write.New(g.l, g.p, g.k, g.b, g.r, g.shape.Pages, 100)
	g.c = check.New(g.d, g.l, g.p, g.b, g.r, s)
	g.cut = false
}

// lives marks a call in which the disk has died.
func (g *engine) lives(e api.Errno) { g.cut = g.cut || e == api.ErrDead }

func (g *engine) step() {
	id, key, pick := 1+g.dice.Intn(8), g.dice.Intn(30), g.dice.Intn(9)
	row, there := g.b.ById(id)
	switch k := g.dice.Intn(40); {
	case k < 9:
		_, e := g.w.Begin(id)
		g.lives(e)
	case k < 22:
		g.change(row, g.w.Put(id, key, g.dice.Uint64()>>g.dice.Intn(60), pick))
	case k < 26:
		_, e := g.w.Delete(id, key, pick)
		g.change(row, e)
	case k < 28:
		g.lives(g.p.Clean(g.dice.Intn(g.shape.Pages)))
	case k < 30:
		g.lives(g.l.Flush(g.l.End()))
	case k < 35:
		g.lives(g.w.Commit(id))
	case k < 37:
		if there {
			g.back(row)
		}
	case k < 39:
		_, e := g.c.Checkpoint()
		g.lives(e)
	default:
		g.renew()
	}
}

// change: what has no room goes back.
func (g *engine) change(row api.Row, e api.Errno) {
	g.lives(e)
	if e == api.ErrLog {
		row, _ = g.b.Get(row.Birth)
		g.back(row)
	}
}

func (g *engine) back(row api.Row) {
	_, e := back.Roll(g.l, g.p, g.b, g.r, row.Birth, 0)
	g.lives(e)
	g.k.Drop(row.Birth)
}

func (g *engine) renew() {
	if g.b.Count() == 0 {
		g.base[g.l.End()-1] = slotsIn(g.d, g.p)
	}
	g.lives(g.c.Renew())
}

// slotsIn gives all pages' slots: in their frames, or else on the disk.
func slotsIn(d *disk.Disk, p *pool.Pool) [][]byte {
	pages := d.Image().Pages
	for number := range pages {
		if b, is := p.Look(number); is {
			pages[number] = b
		}
		pages[number] = slotsOf(pages[number])
	}
	return pages
}

// expected gives the slots that the winners of an image leave, laid upon what stood at its base, and how many updates are to be undone.
func (g *engine) expected(d *disk.Disk) ([][]byte, int) {
	g.t.Helper()
	s, there, e := master.Newest(d.Copy())
	if !there || e != api.OK {
		g.t.Fatalf("Newest: %v, %d", there, e)
	}
	at, known := g.base[s.Base]
	if !known {
		g.t.Fatalf("nobody knows the base %d", s.Base)
	}
	var lines []line
	log := d.Image().Log
	for lsn, r := range scan.Each(log, s.Base) {
		lines = append(lines, line{lsn, r})
	}
	var all [][]byte
	for number, was := range at {
		all = append(all, wonOf(lines, was, number))
	}
	found, e := look.Analyse(log, s.Base, s.Check, g.shape.Pages, g.shape.Slots)
	ok(g.t, "Analyse", e)
	return all, len(found.Undo)
}

// opened gives what Run is handed, as a restart reads it; the state is the newest master's.
func opened(d *disk.Disk, frames int) (*wal.Log, *pool.Pool, look.Result, master.State, api.Errno) {
	for _, sync := range []func() api.Errno{d.SyncLog, d.Sync, d.SyncMasters} {
		if e := sync(); e != api.OK {
			return nil, nil, look.Result{}, master.State{}, e
		}
	}
	s, _, e := master.Newest(d)
	if e != api.OK {
		return nil, nil, look.Result{}, master.State{}, e
	}
	found, e := look.Analyse(d.Image().Log, s.Base, s.Check, d.Shape().Pages, d.Shape().Slots)
	if e != api.OK {
		return nil, nil, look.Result{}, master.State{}, e
	}
	if _, e := pair.Repair(d); e != api.OK {
		return nil, nil, look.Result{}, master.State{}, e
	}
	l, e := wal.Open(d, s.Base)
	if e == api.OK {
		e = l.Trim()
	}
	if e != api.OK {
		return nil, nil, look.Result{}, master.State{}, e
	}
	p, e := pool.New(d, l, frames)
	return l, p, found, s, e
}

// restart sets a disk right, looks at the slots right behind Run, and begins the log anew; the master then written is told.
func (g *engine) restart(d *disk.Disk, frames int, want [][]byte) (master.State, api.Errno) {
	g.t.Helper()
	l, p, found, s, e := opened(d, frames)
	if e != api.OK {
		return s, e
	}
	r, e := aries.Run(l, p, found, aries.Plain{})
	if e != api.OK {
		return s, e
	}
	if got := slotsIn(d, p); !reflect.DeepEqual(got, want) {
		g.t.Fatalf("slots % x, want % x", got, want)
	}
	if r.Undone != len(found.Undo) || r.Ends != len(found.Rows) || !slices.Equal(r.Winners, found.Winners) || len(r.Losers) > r.Ends {
		g.t.Fatalf("told %v, found %v", r, found)
	}
	g.base[l.End()-1] = want
	b, e := table.New(1)
	ok(g.t, "table.New", e)
	c := check.New(d, l, p, b, room.New(d.Shape().Log), s)
	e = c.Renew()
	return c.State(), e
}

// choice is what a crash may leave.
func (g *engine) choice() api.Choice {
	log := []int{0, -1, g.dice.Intn(60), g.dice.Intn(1000)}[g.dice.Intn(4)]
	keep := [][]int{nil, {1}, {0, 1}, {1, 0}, {g.dice.Intn(150), g.dice.Intn(150)}, {g.dice.Intn(80)}}[g.dice.Intn(6)]
	return api.Choice{Log: log, Keep: keep}
}

// run goes on till the disk dies, or for so many steps.
func (g *engine) run(steps int) {
	for i := 0; i < steps && !g.cut; i++ {
		g.step()
	}
}

// Runs of engines, crashes and restarts, one behind the other on one disk; the restarts are cut, too.
func TestRunsThroughCrashes(t *testing.T) { // P23.6
	undone, cuts := 0, 0
	for seed := range int64(300) {
		g := newEngine(t, seed)
		for range 8 {
			g.d.Stop(g.dice.Intn(70))
			g.run(60)
			d := g.d.Crash(g.choice())
			want, n := g.expected(d)
			undone += n
			for {
				d.Stop(g.dice.Intn(60))
				s, e := g.restart(d, 2+g.dice.Intn(3), want)
				if e == api.OK {
					g.d = d
					d.Stop(0)
					g.open(s)
					break
				}
				if e != api.ErrDead {
					t.Fatalf("seed %d: a restart answers %d", seed, e)
				}
				cuts++
				d = d.Crash(g.choice())
			}
			if t.Failed() {
				t.Fatalf("seed %d", seed)
			}
		}
	}
	if undone < 2000 || cuts < 500 {
		t.Errorf("only %d updates to be undone, %d restarts cut", undone, cuts)
	}
}

// Each act of each restart of many images is the last one, with several crashes behind, and once more within the second restart.
func TestRestartsCutAtEachAct(t *testing.T) { // P23.6
	images, cuts := 0, 0
	for seed := range int64(25) {
		g := newEngine(t, 1000+seed)
		g.d.Stop(20 + g.dice.Intn(50))
		g.run(100)
		for range 3 {
			d := g.d.Crash(g.choice())
			want, n := g.expected(d)
			images += min(n, 1)
			for stop := 1; ; stop++ {
				x := d.Copy()
				x.Stop(stop)
				_, e := g.restart(x, g.frames, want)
				if e == api.OK {
					break
				}
				cuts++
				for range 4 {
					g.restartAgain(x.Crash(g.choice()), want)
				}
				if t.Failed() {
					t.Fatalf("seed %d, stop %d", seed, stop)
				}
			}
		}
	}
	if images < 30 || cuts < 1000 {
		t.Errorf("only %d images with something to be undone, %d restarts cut", images, cuts)
	}
}

// restartAgain cuts a restart once more, and then lets one end.
func (g *engine) restartAgain(d *disk.Disk, want [][]byte) {
	g.t.Helper()
	x := d.Copy()
	x.Stop(1 + g.dice.Intn(40))
	if _, e := g.restart(x, 2+g.dice.Intn(3), want); e == api.ErrDead {
		d = x.Crash(g.choice())
	}
	if _, e := g.restart(d, 2+g.dice.Intn(3), want); e != api.OK {
		g.t.Fatalf("the last restart: %d", e)
	}
	for number, b := range d.Lasts().Pages {
		if !bytes.Equal(slotsOf(b), want[number]) {
			g.t.Fatalf("page %d lasts as % x, want % x", number, b, want[number])
		}
	}
}

// At each act a run may be cut; behind any crash Run leaves what the winners left.
func TestRunsCutAtEachAct(t *testing.T) { // P23.6
	images := 0
	for seed := range int64(10) {
		for stop := 1; ; stop++ {
			g := newEngine(t, 2000+seed)
			g.d.Stop(stop)
			g.run(60)
			if !g.cut {
				break
			}
			for _, c := range []api.Choice{{}, {Log: -1, Keep: []int{1}}, g.choice(), g.choice()} {
				d := g.d.Crash(c)
				want, n := g.expected(d)
				images += min(n, 1)
				if _, e := g.restart(d, g.frames, want); e != api.OK {
					t.Fatalf("seed %d, stop %d: a restart answers %d", seed, stop, e)
				}
			}
		}
	}
	if images < 500 {
		t.Errorf("only %d images with something to be undone", images)
	}
}

// The same log and pages leave the same, each time, and through each number of frames the same slots and records.
func TestFrames(t *testing.T) { // P23.1 to P23.4
	for seed := range int64(40) {
		g := newEngine(t, 3000+seed)
		g.d.Stop(30 + g.dice.Intn(60))
		g.run(100)
		d := g.d.Crash(g.choice())
		var first []line
		var report api.Report
		for frames := 2; frames <= 16; frames++ {
			x, y := d.Copy(), d.Copy()
			l, p, found, _, e := opened(x, frames)
			ok(t, "opened", e)
			r, e := aries.Run(l, p, found, aries.Plain{})
			ok(t, "Run", e)
			m, q, found, _, e := opened(y, frames)
			ok(t, "opened", e)
			w, e := aries.Run(m, q, found, aries.Plain{})
			ok(t, "Run", e)
			if !reflect.DeepEqual(r, w) || x.Acts() != y.Acts() || !sameLines(linesOf(l), linesOf(m)) || !reflect.DeepEqual(slotsIn(x, p), slotsIn(y, q)) {
				t.Fatalf("seed %d: two like runs part", seed)
			}
			if first == nil {
				first, report = linesOf(l), r
			}
			if !sameLines(linesOf(l), first) || !sameReport(r, report) {
				t.Fatalf("seed %d: with %d frames: %v, want %v", seed, frames, r, report)
			}
		}
	}
}
