package back_test

import (
	"bytes"
	"math/rand"
	"reflect"
	"slices"
	"testing"

	"tidemark/api"
	"tidemark/disk"
	"tidemark/lock"
	"tidemark/page"
	"tidemark/pair"
	"tidemark/plain"
	"tidemark/wal"
	"tidemark/write"
)

// runner does one seeded run: transactions go forward by layer 19, and back by Roll.
type runner struct {
	*world
	k    *lock.Locks
	w    *write.Writer
	z    *plain.State
	keys int
	dice *rand.Rand
	cut  bool // the disk has died in the run

	ahead map[int]map[int][]byte // of each birth, of each page that it updated, the slots ahead of that
	went  int                    // so many went back
}

func start(t *testing.T, seed int64, stop int) *runner {
	t.Helper()
	r := rand.New(rand.NewSource(seed))
	s := setup{
		shape:  api.Shape{Pages: 1 + r.Intn(6), Slots: 1 + r.Intn(3), Log: 1024 + r.Intn(4000)},
		frames: 2 + r.Intn(3), table: 1 + r.Intn(5), base: r.Intn(3) * 5000,
	}
	s.area = s.shape.Log
	g := &runner{world: made(t, s), k: lock.New(), keys: 4 + r.Intn(20), dice: r, ahead: map[int]map[int][]byte{}}
	g.w = write.New(g.l, g.p, g.k, g.b, g.r, s.shape.Pages, g.keys)
	z, e := plain.New(api.Config{Shape: s.shape, Frames: s.frames, Table: s.table, Keys: g.keys})
	ok(t, "plain.New", e)
	g.z = z
	g.d.Stop(stop)
	return g
}

func (g *runner) value() uint64 {
	return []uint64{0, 1, 255, 256, 1 << 40, g.dice.Uint64()}[g.dice.Intn(6)]
}

// step does one call of a few.
func (g *runner) step() {
	g.t.Helper()
	id, key, v, pick := 1+g.dice.Intn(5), g.dice.Intn(g.keys), g.value(), g.dice.Intn(40)-20
	number := g.dice.Intn(g.s.shape.Pages)
	switch k := g.dice.Intn(24); {
	case k < 4:
		_, e := g.w.Begin(id)
		g.same("Begin", e, func() api.Errno { return g.z.Begin(id) })
	case k < 6:
		_, _, e := g.w.Get(id, key, pick)
		g.same("Get", e, func() api.Errno {
			_, _, f := g.z.Get(id, key)
			return f
		})
	case k < 14:
		g.change(id, pick, func() api.Errno { return g.w.Put(id, key, v, pick) }, func() api.Errno { return g.z.Put(id, key, v) })
	case k < 17:
		g.change(id, pick, func() api.Errno {
			_, e := g.w.Delete(id, key, pick)
			return e
		}, func() api.Errno {
			_, e := g.z.Delete(id, key)
			return e
		})
	case k < 18:
		g.lives(g.p.Clean(number))
	case k < 19:
		g.lives(g.l.Flush(g.l.End()))
	case k < 21:
		g.same("Commit", g.w.Commit(id), func() api.Errno { return g.z.Commit(id) })
	default:
		if row, there := g.b.ById(id); there {
			ok(g.t, "plain.Abort", g.z.Abort(id))
			g.back(row, pick)
		}
	}
}

// lives marks a call in which the disk has died.
func (g *runner) lives(e api.Errno) bool {
	g.cut = g.cut || e == api.ErrDead
	return !g.cut
}

// same holds an answer against the model's, unless the disk has died in the call.
func (g *runner) same(what string, e api.Errno, model func() api.Errno) {
	g.t.Helper()
	if !g.lives(e) {
		return
	}
	if f := model(); e != f {
		g.t.Fatalf("%s: %d, want %d", what, e, f)
	}
}

// change does a put or a delete on both; what has no room goes back.
func (g *runner) change(id, pick int, do, model func() api.Errno) {
	g.t.Helper()
	row, _ := g.b.ById(id)
	pages, end := g.pages(), g.l.End()
	e := do()
	g.same("a change", e, model)
	if g.cut {
		return
	}
	if e == api.ErrLog {
		g.back(row, pick)
		return
	}
	if r, _ := g.l.Read(end); r.Kind == api.KUpdate {
		own := g.ahead[row.Birth]
		if own == nil {
			own = map[int][]byte{}
			g.ahead[row.Birth] = own
		}
		if own[r.Page] == nil {
			own[r.Page] = slotsOf(pages[r.Page])
		}
	}
}

// backOf tells, by the log alone, what Roll must append for an open transaction that nobody has begun to undo.
func backOf(lines []line, end int, row api.Row) []line {
	var updates []line
	for _, x := range lines {
		if x.r.Kind == api.KUpdate && x.r.Birth == row.Birth {
			updates = append(updates, x)
		}
	}
	more := []line{abortOf(end, row.Birth, row.Last)}
	last := end
	end += 33
	for i := len(updates) - 1; i >= 0; i-- {
		u, next := updates[i].r, 0
		if i > 0 {
			next = updates[i-1].lsn
		}
		more = append(more, undoOf(end, row.Birth, last, u.Page, u.From, u.Before, next))
		last = end
		end += 46 + len(u.Before)
	}
	return append(more, endOf(end, row.Birth, last))
}

// back rolls a transaction back, and looks at all that P20.1, P20.3 and P20.4 say.
func (g *runner) back(row api.Row, pick int) {
	g.t.Helper()
	lines, pages, sum := linesOf(g.l), g.pages(), g.l.Bytes()+g.r.Kept()
	acts, flushed, held := g.d.Acts(), g.l.Flushed(), g.p.Held()
	rows := slices.DeleteFunc(g.b.Rows(), func(r api.Row) bool { return r == row })
	more := backOf(lines, g.l.End(), row)

	n, e := g.roll(row.Birth, pick)
	if !g.lives(e) {
		return
	}
	if e != api.OK || n != len(more)-2 {
		g.t.Fatalf("Roll: %d, %d, want %d, OK", n, e, len(more)-2)
	}
	g.went++
	g.k.Drop(row.Birth)
	g.wantMore(lines, more...)
	g.wantRows(rows...)
	if now := g.l.Bytes() + g.r.Kept(); g.r.Of(row.Birth) != 0 || now > sum {
		g.t.Errorf("%d bytes and kept, %d ahead; it keeps %d", now, sum, g.r.Of(row.Birth))
	}
	g.wantAhead(g.ahead[row.Birth], pages, more)
	all := true
	for number := range g.ahead[row.Birth] {
		all = all && slices.Contains(held, number)
	}
	if all && (g.d.Acts() != acts || g.l.Flushed() != flushed) {
		g.t.Errorf("%d acts, and flushed up to %d, was %d", g.d.Acts()-acts, g.l.Flushed(), flushed)
	}
	g.wantPins(make([]int, g.s.shape.Pages)...)
}

// wantAhead looks that each page that was updated is as it was ahead of that, and each other as it was ahead of Roll.
func (g *runner) wantAhead(ahead map[int][]byte, pages [][]byte, more []line) {
	g.t.Helper()
	lsns := map[int]int{}
	for _, x := range more {
		if x.r.Kind == api.KUndo {
			lsns[x.r.Page] = x.lsn
		}
	}
	if len(lsns) != len(ahead) {
		g.t.Fatalf("compensations on %v, updates on %v", lsns, ahead)
	}
	for number, was := range pages {
		if slots, there := ahead[number]; there {
			was = sheet(number, lsns[number], slots...)
		}
		g.wantPage(number, was)
	}
}

// told is what a log leaves of a page up to an LSN: all that was laid there, and the last LSN.
func told(lines []line, number, slots, upTo int) (int, []byte) {
	lsn, b := 0, make([]byte, 16*slots)
	for _, x := range lines {
		if (x.r.Kind == api.KUpdate || x.r.Kind == api.KUndo) && x.r.Page == number && x.lsn <= upTo {
			lsn = x.lsn
			copy(b[x.r.From-16:], x.r.After)
		}
	}
	return lsn, b
}

// wantTold looks that each page is what the log tells of it, and that nothing on the disk is ahead of what is flushed.
func (g *runner) wantTold() {
	g.t.Helper()
	lines, slots := linesOf(g.l), g.s.shape.Slots
	for number, b := range g.pages() {
		lsn, want := told(lines, number, slots, g.l.End())
		if lsnOf(b) != lsn || !bytes.Equal(slotsOf(b), want) {
			g.t.Fatalf("page %d: % x, want the LSN %d and % x", number, b, lsn, want)
		}
	}
	for number, b := range g.d.Image().Pages {
		if lsn, e := page.Check(b, number, slots); e != api.OK || lsn >= g.l.Flushed() {
			g.t.Fatalf("page %d has the LSN %d (%d), and the log is flushed up to %d", number, lsn, e, g.l.Flushed())
		}
	}
}

func TestRuns(t *testing.T) { // P20.1, P20.3, P20.4
	went := 0
	for seed := range int64(400) {
		g := start(t, seed, 0)
		for range 150 {
			g.step()
			g.wantTold()
			if used, kept := g.z.Used(); g.l.Bytes() != used || g.r.Kept() != kept {
				t.Fatalf("%d bytes, %d kept, want %d, %d", g.l.Bytes(), g.r.Kept(), used, kept)
			}
		}
		for _, row := range g.b.Rows() {
			ok(t, "plain.Abort", g.z.Abort(row.Id))
			g.back(row, g.dice.Intn(9))
		}
		want, e := g.z.Entries()
		ok(t, "Entries", e)
		if got := g.dump(); !slices.Equal(got, want) {
			t.Errorf("the pages have %v, want %v", got, want)
		}
		if g.cut || t.Failed() {
			t.Fatalf("seed %d", seed)
		}
		went += g.went
	}
	if went < 2000 {
		t.Errorf("%d went back alone", went)
	}
}

// dump gives all keys and values of the pages, keys rising.
func (g *runner) dump() []api.Entry {
	var all []api.Entry
	for _, b := range g.pages() {
		for _, x := range page.Entries(b) {
			all = append(all, x)
		}
	}
	slices.SortFunc(all, func(a, b api.Entry) int { return a.Key - b.Key })
	return all
}

// crashed looks at what a crash leaves: the log is a beginning of what the uncut run appends, and each page is what that log tells of it up to the page's LSN.
func (g *runner) crashed(all []line, c api.Choice) {
	g.t.Helper()
	d := g.d.Crash(c)
	if _, e := pair.Repair(d); e != api.OK {
		g.t.Fatalf("Repair: %d", e)
	}
	l, e := wal.Open(d, g.s.base)
	ok(g.t, "wal.Open", e)
	left := linesOf(l)
	if len(left) > len(all) || !sameLines(left, all[:len(left)]) {
		g.t.Fatalf("the log %v is no beginning of %v", left, all)
	}
	g.wantHistory(d, left, l.End())
}

func (g *runner) wantHistory(d *disk.Disk, left []line, end int) {
	g.t.Helper()
	for number, b := range d.Image().Pages {
		at, e := page.Check(b, number, g.s.shape.Slots)
		if e != api.OK || at >= end {
			g.t.Fatalf("page %d has the LSN %d (%d), the log's end is %d", number, at, e, end)
		}
		lsn, want := told(left, number, g.s.shape.Slots, at)
		if lsn != at || !bytes.Equal(slotsOf(b), want) {
			g.t.Fatalf("page %d: % x, want the LSN %d and % x", number, b, lsn, want)
		}
	}
}

// At each act a run may be cut, in a Roll or elsewhere.
func TestRunsThatAreCut(t *testing.T) { // P20.2
	for seed := range int64(12) {
		whole := start(t, seed, 0)
		for range 80 {
			whole.step()
		}
		all := linesOf(whole.l)
		for stop := 1; ; stop++ {
			g := start(t, seed, stop)
			for i := 0; i < 80 && !g.cut; i++ {
				g.step()
			}
			if !g.cut {
				break
			}
			for _, log := range []int{0, 1, 46, -1, -2, g.dice.Intn(500)} {
				g.crashed(all, api.Choice{Log: log, Keep: []int{g.dice.Intn(3), g.dice.Intn(60)}})
			}
			if t.Failed() {
				t.Fatalf("seed %d, stop %d", seed, stop)
			}
		}
	}
}

// The same calls leave the same, each time.
func TestRunsTwice(t *testing.T) { // P20.1
	for seed := range int64(20) {
		a, b := start(t, seed, 0), start(t, seed, 0)
		for range 100 {
			a.step()
			b.step()
		}
		if !reflect.DeepEqual(a.state(), b.state()) {
			t.Fatalf("seed %d: two like runs part", seed)
		}
	}
}
