package pool_test

import (
	"bytes"
	"encoding/binary"
	"math/big"
	"math/rand"
	"slices"
	"testing"

	"tidemark/api"
	"tidemark/disk"
	"tidemark/page"
	"tidemark/pair"
	"tidemark/scan"
)

// seat is what the model knows of a held page.
type seat struct {
	bytes []byte
	pins  int
	dirty bool
	rec   int
}

// model is what a pool must be, told plainly: a list of all pages' places, in each a seat or none.
type model struct {
	slots, most int
	pages       [][]byte // on the disk
	seats       []*seat
	now         [][]byte // what each page is, wherever it stands: P14.9
}

func modelOf(d *disk.Disk, most int) *model {
	s := d.Shape()
	return &model{slots: s.Slots, most: most, pages: d.Image().Pages, seats: make([]*seat, s.Pages), now: d.Image().Pages}
}

func lsnOf(b []byte) int { return int(binary.LittleEndian.Uint64(b)) }

// those gives the numbers of the pages that are so.
func (m *model) those(isSo func(s *seat) bool) []int {
	var all []int
	for n, s := range m.seats {
		if s != nil && isSo(s) {
			all = append(all, n)
		}
	}
	return all
}

func (m *model) held() []int  { return m.those(func(*seat) bool { return true }) }
func (m *model) dirty() []int { return m.those(func(s *seat) bool { return s.dirty }) }
func (m *model) idle() []int  { return m.those(func(s *seat) bool { return s.pins == 0 }) }

func (m *model) recs() []api.Rec {
	var all []api.Rec
	for _, n := range m.dirty() {
		all = append(all, api.Rec{Page: n, Lsn: m.seats[n].rec})
	}
	return all
}

// write tells the acts that it takes to write a dirty page.
func (m *model) write(n int, flushed *int, end int) int {
	s, acts := m.seats[n], 4
	if !s.dirty {
		return 0
	}
	if lsnOf(s.bytes) >= *flushed {
		acts, *flushed = 6, end
	}
	s.dirty, s.rec, m.pages[n] = false, 0, s.bytes
	return acts
}

// pin tells what Pin must answer, and its acts.
func (m *model) pin(n, pick, flushed, end int) (api.Errno, int) {
	if n < 0 || n >= len(m.seats) {
		return api.ErrPlace, 0
	}
	if m.seats[n] != nil {
		m.seats[n].pins++
		return api.OK, 0
	}
	idle, acts := m.idle(), 1
	if len(m.held()) == m.most {
		if len(idle) == 0 {
			return api.ErrPinned, 0
		}
		at := new(big.Int).Mod(big.NewInt(int64(pick)), big.NewInt(int64(len(idle)))).Int64()
		acts += m.write(idle[at], &flushed, end)
		m.seats[idle[at]] = nil
	}
	m.seats[n] = &seat{bytes: m.pages[n], pins: 1}
	return api.OK, acts
}

// change tells what Change must answer.
func (m *model) change(n int, b []byte, lsn, end int) api.Errno {
	switch {
	case n < 0 || n >= len(m.seats) || m.seats[n] == nil || m.seats[n].pins == 0:
		return api.ErrPlace
	case len(b) != 24+16*m.slots:
		return api.ErrBytes
	case lsn <= lsnOf(m.seats[n].bytes) || lsn >= end:
		return api.ErrLsn
	}
	s := m.seats[n]
	s.bytes = layPage(uint32(n), uint64(lsn), uint64(lsn), b[16:len(b)-8])
	m.now[n] = s.bytes
	if !s.dirty {
		s.dirty, s.rec = true, lsn
	}
	return api.OK
}

// runner does one seeded run on a pool and on the model side by side.
type runner struct {
	*world
	m    *model
	r    *rand.Rand
	base int
	cut  bool // the disk has died in the run
}

func start(t *testing.T, seed int64, stop int) *runner {
	t.Helper()
	r := rand.New(rand.NewSource(seed))
	s := api.Shape{Pages: 1 + r.Intn(7), Slots: 1 + r.Intn(3), Log: 1024}
	d := filled(t, s)
	frames := 2 + r.Intn(4)
	g := &runner{world: on(t, d, frames, 1), m: modelOf(d, frames), r: r}
	d.Stop(stop - d.Acts())
	return g
}

// step is one call of a run; it is the log's every now and then.
func (g *runner) step() {
	g.t.Helper()
	n := g.r.Intn(len(g.m.seats)+2) - 1
	switch k := g.r.Intn(20); {
	case k < 6:
		g.stepPin(n)
	case k < 10:
		if g.r.Intn(3) > 0 {
			n = g.among(g.m.held(), n)
		}
		g.p.Unpin(n)
		if n >= 0 && n < len(g.m.seats) && g.m.seats[n] != nil {
			g.m.seats[n].pins = max(0, g.m.seats[n].pins-1)
		}
	case k < 15:
		g.stepChange(g.among(g.m.held(), n))
	case k < 16:
		g.stepClean(n)
	case k < 17 && g.r.Intn(3) == 0:
		g.stepCleanAll()
	default:
		g.stepLog()
	}
}

// among gives one of the numbers, or the other if there are none.
func (g *runner) among(numbers []int, other int) int {
	if len(numbers) == 0 {
		return other
	}
	return numbers[g.r.Intn(len(numbers))]
}

// call does a call, and looks at its answer and acts, unless the disk dies in it.
func (g *runner) call(what string, want api.Errno, acts int, do func() api.Errno) {
	g.t.Helper()
	n := g.d.Acts()
	e := do()
	if e == api.ErrDead && g.d.Dead() {
		g.cut = true
		return
	}
	if e != want || g.d.Acts()-n != acts {
		g.t.Fatalf("%s: %d with %d acts, want %d with %d", what, e, g.d.Acts()-n, want, acts)
	}
}

func (g *runner) stepPin(n int) {
	g.t.Helper()
	pick := g.r.Intn(40) - 20
	was := g.m.copy()
	want, acts := g.m.pin(n, pick, g.l.Flushed(), g.l.End())
	var b []byte
	g.call("Pin", want, acts, func() api.Errno {
		var e api.Errno
		b, e = g.p.Pin(n, pick)
		return e
	})
	if g.cut {
		g.m = was
	} else if want == api.OK && !bytes.Equal(b, g.m.now[n]) {
		g.t.Fatalf("Pin(%d): % x, want % x", n, b, g.m.now[n])
	}
}

func (g *runner) stepChange(n int) {
	g.t.Helper()
	b := make([]byte, 24+16*g.m.slots+g.r.Intn(12)/11)
	g.r.Read(b)
	lsn := g.l.End() - g.r.Intn(80)
	want := g.m.change(n, b, lsn, g.l.End())
	g.call("Change", want, 0, func() api.Errno { return g.p.Change(n, b, lsn) })
}

func (g *runner) stepClean(n int) {
	g.t.Helper()
	was, want, acts := g.m.copy(), api.OK, 0
	flushed := g.l.Flushed()
	if n < 0 || n >= len(g.m.seats) {
		want = api.ErrPlace
	} else if g.m.seats[n] != nil {
		acts = g.m.write(n, &flushed, g.l.End())
	}
	g.call("Clean", want, acts, func() api.Errno { return g.p.Clean(n) })
	if g.cut {
		g.m = was
	}
}

func (g *runner) stepCleanAll() {
	g.t.Helper()
	was, acts := g.m.copy(), 0
	flushed := g.l.Flushed()
	for _, n := range g.m.dirty() {
		acts += g.m.write(n, &flushed, g.l.End())
	}
	g.call("CleanAll", api.OK, acts, g.p.CleanAll)
	if g.cut {
		g.m = was
		return
	}
	for n, s := range g.m.seats {
		if s != nil {
			g.wantPage("behind CleanAll", n, s.bytes)
		}
	}
}

// stepLog has the log go on beside the pool.
func (g *runner) stepLog() {
	g.t.Helper()
	e := api.OK
	switch k := g.r.Intn(12); {
	case g.l.Bytes() > 800:
		base := g.l.End() - 1 + g.r.Intn(3)
		if e = g.l.Renew(base); e == api.OK {
			g.base = base
		}
	case k == 0:
		e = g.l.Flush(g.l.End())
	default:
		g.append()
	}
	g.cut = g.cut || e == api.ErrDead
}

func (m *model) copy() *model {
	c := *m
	c.pages, c.now, c.seats = slices.Clone(m.pages), slices.Clone(m.now), slices.Clone(m.seats)
	for n, s := range m.seats {
		if s != nil {
			one := *s
			c.seats[n] = &one
		}
	}
	return &c
}

// told looks at all that the pool tells, and at the disk.
func (g *runner) told() {
	g.t.Helper()
	g.world.held(g.m.held()...)
	g.world.dirty(g.m.recs()...)
	for n, s := range g.m.seats {
		if s == nil {
			g.noLook(n)
			wantBytes(g.t, "a page that is out", g.m.pages[n], g.m.now[n])
		} else {
			g.look(n, g.m.now[n])
		}
		g.wantPage("a page", n, g.m.pages[n])
	}
	g.logFirst(g.d.Image(), g.l.Flushed())
}

// logFirst looks that no page's LSN, and no right pair's, is at or above what is flushed.
func (g *runner) logFirst(m api.Image, flushed int) {
	g.t.Helper()
	for n, b := range m.Pages {
		if lsnOf(b) >= flushed {
			g.t.Fatalf("page %d has the LSN %d, and the log is flushed up to %d", n, lsnOf(b), flushed)
		}
	}
	if number, b, e := pair.Parse(m.Pair, len(m.Pages), g.m.slots); e == api.OK && lsnOf(b) >= flushed {
		g.t.Fatalf("the pair's page %d has the LSN %d, and the log is flushed up to %d", number, lsnOf(b), flushed)
	}
}

// crashed looks at what a crash leaves: the log first, and behind a Repair each page as it was or as it was to be.
func (g *runner) crashed(c api.Choice) {
	g.t.Helper()
	x := g.d.Crash(c)
	_, size := scan.All(x.Image().Log, g.base)
	g.logFirst(x.Image(), g.base+1+size)
	if _, e := pair.Repair(x); e != api.OK {
		g.t.Fatalf("Repair: %d", e)
	}
	for n, b := range x.Lasts().Pages {
		if _, e := page.Check(b, n, g.m.slots); e != api.OK {
			g.t.Fatalf("page %d is torn: % x", n, b)
		}
		s := g.m.seats[n]
		if !bytes.Equal(b, g.m.pages[n]) && (s == nil || !bytes.Equal(b, s.bytes)) {
			g.t.Fatalf("page %d is neither as it was nor as it was to be: % x", n, b)
		}
	}
}

func (g *runner) crashes() {
	g.t.Helper()
	for _, keep := range [][]int{nil, {1}, {9}, {13}, {2}} {
		g.crashed(api.Choice{Log: g.r.Intn(200), Keep: keep})
	}
	for range 4 {
		g.crashed(api.Choice{Log: g.r.Intn(200), Keep: []int{g.r.Intn(100), g.r.Intn(100)}})
	}
}

func TestRunsAreThoseOfTheModel(t *testing.T) { // P14.2 to P14.6, P14.9
	for seed := range int64(150) {
		g := start(t, seed, 0)
		for range 300 {
			g.step()
			g.told()
		}
		if g.cut {
			t.Fatal("nobody has stopped the disk")
		}
		g.crashes()
	}
}

func TestRunsThatAreCut(t *testing.T) { // P14.8, P14.9
	for seed := range int64(12) {
		for stop := 2; ; stop++ {
			g := start(t, seed, stop)
			for i := 0; i < 100 && !g.cut; i++ {
				g.step()
			}
			if !g.cut {
				break
			}
			g.crashes()
		}
	}
}
