package choose_test

import (
	"bytes"
	"math/rand"
	"reflect"
	"testing"

	"tidemark/api"
	"tidemark/aries"
	"tidemark/back"
	"tidemark/check"
	"tidemark/choose"
	"tidemark/disk"
	"tidemark/lock"
	"tidemark/look"
	"tidemark/master"
	"tidemark/pair"
	"tidemark/pool"
	"tidemark/room"
	"tidemark/scan"
	"tidemark/table"
	"tidemark/wal"
	"tidemark/write"
)

// engine is the layers below, on one disk, as a run uses them; with restarts by hand, as layer 25 does them.
type engine struct {
	t      *testing.T
	dice   *rand.Rand
	shape  api.Shape
	frames int
	d      *disk.Disk
	l      *wal.Log
	p      *pool.Pool
	k      *lock.Locks
	b      *table.Table
	r      *room.Room
	w      *write.Writer
	c      *check.Checker

	cut  bool             // the disk has died
	base map[int][][]byte // by each base that a master may say: the slots of all pages as they stood there
}

func newEngine(t *testing.T, seed int64) *engine {
	t.Helper()
	r := rand.New(rand.NewSource(seed))
	g := &engine{t: t, dice: r, base: map[int][][]byte{}, frames: 2 + r.Intn(3)}
	g.shape = api.Shape{Pages: 1 + r.Intn(6), Slots: 1 + r.Intn(3), Log: 1024 + r.Intn(3000)}
	var e api.Errno
	g.d, e = disk.New(g.shape)
	ok(t, "disk.New", e)
	s, e := master.Next(g.d, master.State{Base: r.Intn(2) * 1000})
	ok(t, "master.Next", e)
	var blank [][]byte
	for range g.shape.Pages {
		blank = append(blank, make([]byte, 16*g.shape.Slots))
	}
	g.base[s.Base] = blank
	g.open(s)
	return g
}

// open begins on a disk whose log has no records.
func (g *engine) open(s master.State) {
	g.t.Helper()
	var e api.Errno
	g.l, e = wal.Open(g.d, s.Base)
	ok(g.t, "wal.Open", e)
	g.p, e = pool.New(g.d, g.l, g.frames)
	ok(g.t, "pool.New", e)
	g.b, e = table.New(1 + g.dice.Intn(8))
	ok(g.t, "table.New", e)
	g.k, g.r = lock.New(), room.New(g.shape.Log)
	g.w = write.New(g.l, g.p, g.k, g.b, g.r, g.shape.Pages, 100)
	g.c = check.New(g.d, g.l, g.p, g.b, g.r, s)
	g.cut = false
}

// lives marks a call in which the disk has died.
func (g *engine) lives(e api.Errno) { g.cut = g.cut || e == api.ErrDead }

func (g *engine) step() {
	id, key, pick := 1+g.dice.Intn(8), g.dice.Intn(30), g.dice.Intn(9)
	row, there := g.b.ById(id)
	switch k := g.dice.Intn(40); {
	case k < 9:
		_, e := g.w.Begin(id)
		g.lives(e)
	case k < 22:
		g.change(row, g.w.Put(id, key, g.dice.Uint64()>>g.dice.Intn(60), pick))
	case k < 26:
		_, e := g.w.Delete(id, key, pick)
		g.change(row, e)
	case k < 28:
		g.lives(g.p.Clean(g.dice.Intn(g.shape.Pages)))
	case k < 30:
		g.lives(g.l.Flush(g.l.End()))
	case k < 35:
		g.lives(g.w.Commit(id))
	case k < 37:
		if there {
			g.back(row)
		}
	case k < 39:
		_, e := g.c.Checkpoint()
		g.lives(e)
	default:
		g.renew()
	}
}

// change: what has no room goes back.
func (g *engine) change(row api.Row, e api.Errno) {
	g.lives(e)
	if e == api.ErrLog {
		row, _ = g.b.Get(row.Birth)
		g.back(row)
	}
}

func (g *engine) back(row api.Row) {
	_, e := back.Roll(g.l, g.p, g.b, g.r, row.Birth, 0)
	g.lives(e)
	g.k.Drop(row.Birth)
}

func (g *engine) renew() {
	if g.b.Count() == 0 {
		g.base[g.l.End()-1] = slotsIn(g.d, g.p)
	}
	g.lives(g.c.Renew())
}

// run goes on till the disk dies, or for so many steps.
func (g *engine) run(steps int) {
	for i := 0; i < steps && !g.cut; i++ {
		g.step()
	}
}

// choice is what a crash may leave.
func (g *engine) choice() api.Choice {
	log := []int{0, -1, g.dice.Intn(60), g.dice.Intn(1000)}[g.dice.Intn(4)]
	keep := [][]int{nil, {1}, {0, 1}, {1, 0}, {g.dice.Intn(150), g.dice.Intn(150)}, {g.dice.Intn(80)}}[g.dice.Intn(6)]
	return api.Choice{Log: log, Keep: keep}
}

// manager picks one of the two.
func (g *engine) manager() int { return []int{api.Aries, api.Choose}[g.dice.Intn(2)] }

// slotsIn gives all pages' slots: in their frames, or else on the disk.
func slotsIn(d *disk.Disk, p *pool.Pool) [][]byte {
	pages := d.Image().Pages
	for number := range pages {
		if b, is := p.Look(number); is {
			pages[number] = b
		}
		pages[number] = slotsOf(pages[number])
	}
	return pages
}

// expected gives the slots that the winners of an image leave, laid upon what stood at its base, and what is found there.
func (g *engine) expected(d *disk.Disk) ([][]byte, look.Result) {
	g.t.Helper()
	s, there, e := master.Newest(d.Copy())
	if !there || e != api.OK {
		g.t.Fatalf("Newest: %v, %d", there, e)
	}
	at, known := g.base[s.Base]
	if !known {
		g.t.Fatalf("nobody knows the base %d", s.Base)
	}
	var lines []line
	log := d.Image().Log
	for lsn, r := range scan.Each(log, s.Base) {
		lines = append(lines, line{lsn, r})
	}
	var all [][]byte
	for number, was := range at {
		all = append(all, wonOf(lines, was, number))
	}
	found, e := look.Analyse(log, s.Base, s.Check, g.shape.Pages, g.shape.Slots)
	ok(g.t, "Analyse", e)
	return all, found
}

// opened is what a manager is handed, as a restart reads it; the state is the newest master's.
type opened struct {
	d     *disk.Disk
	l     *wal.Log
	p     *pool.Pool
	found look.Result
	s     master.State
}

func open(d *disk.Disk, frames int) (o opened, e api.Errno) {
	o.d = d
	for _, sync := range []func() api.Errno{d.SyncLog, d.Sync, d.SyncMasters} {
		if e := sync(); e != api.OK {
			return o, e
		}
	}
	if o.s, _, e = master.Newest(d); e != api.OK {
		return o, e
	}
	if o.found, e = look.Analyse(d.Image().Log, o.s.Base, o.s.Check, d.Shape().Pages, d.Shape().Slots); e != api.OK {
		return o, e
	}
	if _, e = pair.Repair(d); e != api.OK {
		return o, e
	}
	if o.l, e = wal.Open(d, o.s.Base); e != api.OK {
		return o, e
	}
	if e = o.l.Trim(); e != api.OK {
		return o, e
	}
	o.p, e = pool.New(d, o.l, frames)
	return o, e
}

func (o opened) run(manager int) (api.Report, api.Errno) {
	if manager == api.Choose {
		return choose.Run(o.l, o.p, o.found)
	}
	return aries.Run(o.l, o.p, o.found, aries.Plain{})
}

// restart sets a disk right, looks at the slots right behind Run, and begins the log anew; the master then written is told.
func (g *engine) restart(d *disk.Disk, frames, manager int, want [][]byte) (master.State, api.Errno) {
	g.t.Helper()
	o, e := open(d, frames)
	if e != api.OK {
		return o.s, e
	}
	if _, e := o.run(manager); e != api.OK {
		return o.s, e
	}
	if got := slotsIn(d, o.p); !reflect.DeepEqual(got, want) {
		g.t.Fatalf("by manager %d: slots % x, want % x", manager, got, want)
	}
	g.base[o.l.End()-1] = want
	b, e := table.New(1)
	ok(g.t, "table.New", e)
	c := check.New(d, o.l, o.p, b, room.New(d.Shape().Log), o.s)
	e = c.Renew()
	return c.State(), e
}

// both runs the managers on two copies of an image, looks at what P24.3 says, and tells how much less Choose has laid.
func (g *engine) both(d *disk.Disk) int {
	g.t.Helper()
	frames := 2 + g.dice.Intn(4)
	x, e := open(d.Copy(), frames)
	ok(g.t, "open", e)
	y, e := open(d.Copy(), frames)
	ok(g.t, "open", e)
	was := cloned(x.found)
	r, e := x.run(api.Choose)
	ok(g.t, "Run", e)
	w, e := y.run(api.Aries)
	ok(g.t, "aries.Run", e)
	if !sameButRedone(r, w) || r.Redone > w.Redone {
		g.t.Fatalf("Choose tells %v, Aries %v", r, w)
	}
	if !sameLines(linesOf(x.l), linesOf(y.l)) {
		g.t.Fatalf("Choose leaves %v, Aries %v", linesOf(x.l), linesOf(y.l))
	}
	if a, b := slotsIn(x.d, x.p), slotsIn(y.d, y.p); !reflect.DeepEqual(a, b) {
		g.t.Fatalf("Choose leaves % x, Aries % x", a, b)
	}
	if !reflect.DeepEqual(x.found, was) {
		g.t.Fatalf("found was %v, is %v", was, x.found)
	}
	return w.Redone - r.Redone
}

// Runs of engines, crashes and restarts, one behind the other on one disk, the managers picked anew each time; the restarts are cut, too.
func TestRunsThroughCrashes(t *testing.T) { // P24.3
	fresh, less, cuts := 0, 0, 0
	for seed := range int64(300) {
		g := newEngine(t, seed)
		for range 8 {
			g.d.Stop(g.dice.Intn(70))
			g.run(60)
			d := g.d.Crash(g.choice())
			want, found := g.expected(d)
			fresh += len(found.Fresh)
			for {
				less += g.both(d)
				d.Stop(g.dice.Intn(60))
				s, e := g.restart(d, 2+g.dice.Intn(3), g.manager(), want)
				if e == api.OK {
					g.d = d
					d.Stop(0)
					g.open(s)
					break
				}
				if e != api.ErrDead {
					t.Fatalf("seed %d: a restart answers %d", seed, e)
				}
				cuts++
				d = d.Crash(g.choice())
			}
			if t.Failed() {
				t.Fatalf("seed %d", seed)
			}
		}
	}
	if fresh < 2000 || less < 1000 || cuts < 500 {
		t.Errorf("only %d fresh losers, %d records less, %d restarts cut", fresh, less, cuts)
	}
}

// Each act of each restart by Choose of many images is the last one, with several crashes behind, and once more within the second restart, by either manager.
func TestRestartsCutAtEachAct(t *testing.T) { // P24.3
	images, cuts := 0, 0
	for seed := range int64(25) {
		g := newEngine(t, 1000+seed)
		g.d.Stop(20 + g.dice.Intn(50))
		g.run(100)
		for range 3 {
			d := g.d.Crash(g.choice())
			want, found := g.expected(d)
			images += min(len(found.Fresh), 1)
			for stop := 1; ; stop++ {
				x := d.Copy()
				x.Stop(stop)
				_, e := g.restart(x, g.frames, api.Choose, want)
				if e == api.OK {
					break
				}
				if e != api.ErrDead {
					t.Fatalf("seed %d, stop %d: a restart answers %d", seed, stop, e)
				}
				cuts++
				for _, manager := range []int{api.Aries, api.Choose, api.Aries, api.Choose} {
					g.restartAgain(x.Crash(g.choice()), manager, want)
				}
				if t.Failed() {
					t.Fatalf("seed %d, stop %d", seed, stop)
				}
			}
		}
	}
	if images < 30 || cuts < 900 {
		t.Errorf("only %d images with fresh losers, %d restarts cut", images, cuts)
	}
}

// restartAgain cuts a restart by either manager once more, and then lets one end.
func (g *engine) restartAgain(d *disk.Disk, manager int, want [][]byte) {
	g.t.Helper()
	x := d.Copy()
	x.Stop(1 + g.dice.Intn(40))
	if _, e := g.restart(x, 2+g.dice.Intn(3), g.manager(), want); e == api.ErrDead {
		d = x.Crash(g.choice())
	}
	if _, e := g.restart(d, 2+g.dice.Intn(3), manager, want); e != api.OK {
		g.t.Fatalf("the last restart: %d", e)
	}
	for number, b := range d.Lasts().Pages {
		if !bytes.Equal(slotsOf(b), want[number]) {
			g.t.Fatalf("page %d lasts as % x, want % x", number, b, want[number])
		}
	}
}

// At each act a run may be cut; behind any crash both managers leave what the winners left.
func TestRunsCutAtEachAct(t *testing.T) { // P24.3
	images, less := 0, 0
	for seed := range int64(10) {
		for stop := 1; ; stop++ {
			g := newEngine(t, 2000+seed)
			g.d.Stop(stop)
			g.run(60)
			if !g.cut {
				break
			}
			for _, c := range []api.Choice{{}, {Log: -1, Keep: []int{1}}, g.choice(), g.choice()} {
				d := g.d.Crash(c)
				want, found := g.expected(d)
				images += min(len(found.Fresh), 1)
				less += g.both(d)
				if _, e := g.restart(d, g.frames, api.Choose, want); e != api.OK {
					t.Fatalf("seed %d, stop %d: a restart answers %d", seed, stop, e)
				}
			}
		}
	}
	if images < 500 || less < 300 {
		t.Errorf("only %d images with fresh losers, %d records less", images, less)
	}
}
