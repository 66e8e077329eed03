package check_test

import (
	"bytes"
	"math/rand"
	"reflect"
	"testing"

	"tidemark/api"
	"tidemark/back"
	"tidemark/page"
	"tidemark/plain"
)

const keys = 30

// runner does one seeded run of transactions, checkpoints and logs begun anew, beside the model.
type runner struct {
	*world
	z    *plain.State
	dice *rand.Rand
	cut  bool // the disk has died in the run

	says    []State          // of all masters, in their order
	ground  map[int][][]byte // of each base: the pages when the log began there
	logs    map[int][]line   // of each base: the records that were logged there
	checked int              // so many checkpoints were OK
	renewed int
}

func start(t *testing.T, seed int64, stop int) *runner {
	t.Helper()
	r := rand.New(rand.NewSource(seed))
	s := setup{
		shape:  api.Shape{Pages: 1 + r.Intn(6), Slots: 1 + r.Intn(3), Log: 1024 + r.Intn(2000)},
		frames: 2 + r.Intn(4), table: 1 + r.Intn(5), turn: 1 + r.Intn(3)*255, base: r.Intn(3) * 5000,
	}
	s.area = s.shape.Log
	g := &runner{world: made(t, s), dice: r, ground: map[int][][]byte{}, logs: map[int][]line{}}
	z, e := plain.New(api.Config{Shape: s.shape, Frames: s.frames, Table: s.table, Keys: 1000})
	ok(t, "plain.New", e)
	g.z = z
	g.says = []State{g.c.State()}
	g.ground[s.base] = g.pages()
	g.d.Stop(stop)
	return g
}

// step does one call of a few.
func (g *runner) step() {
	g.t.Helper()
	id, key, pick := 1+g.dice.Intn(5), g.dice.Intn(keys), g.dice.Intn(40)-20
	v := []uint64{0, 1, 255, 256, 1 << 40, g.dice.Uint64()}[g.dice.Intn(6)]
	number := g.dice.Intn(g.s.shape.Pages)
	switch k := g.dice.Intn(30); {
	case k < 5:
		_, e := g.w.Begin(id)
		g.same("Begin", e, func() api.Errno { return g.z.Begin(id) })
	case k < 12:
		g.change(id, pick, g.w.Put(id, key, v, pick), func() api.Errno { return g.z.Put(id, key, v) })
	case k < 15:
		_, e := g.w.Delete(id, key, pick)
		g.change(id, pick, e, func() api.Errno {
			_, f := g.z.Delete(id, key)
			return f
		})
	case k < 16:
		g.lives(g.p.Clean(number))
	case k < 17:
		g.lives(g.l.Flush(g.l.End()))
	case k < 21:
		g.same("Commit", g.w.Commit(id), func() api.Errno { return g.z.Commit(id) })
	case k < 23:
		if row, there := g.b.ById(id); there {
			ok(g.t, "plain.Abort", g.z.Abort(id))
			g.back(row, pick)
		}
	case k < 26:
		g.check()
	default:
		g.renew()
	}
	if !g.cut {
		g.logs[g.l.Base()] = linesOf(g.l)
	}
}

// lives marks a call in which the disk has died.
func (g *runner) lives(e api.Errno) bool {
	g.cut = g.cut || e == api.ErrDead
	return !g.cut
}

// same holds an answer against the model's, unless the disk has died in the call.
func (g *runner) same(what string, e api.Errno, model func() api.Errno) {
	g.t.Helper()
	if !g.lives(e) {
		return
	}
	if f := model(); e != f {
		g.t.Fatalf("%s: %d, want %d", what, e, f)
	}
}

// change looks at a put's or a delete's answer; what has no room goes back.
func (g *runner) change(id, pick int, e api.Errno, model func() api.Errno) {
	g.t.Helper()
	g.same("a change", e, model)
	if row, there := g.b.ById(id); there && e == api.ErrLog {
		g.back(row, pick)
	}
}

func (g *runner) back(row api.Row, pick int) {
	g.t.Helper()
	_, e := back.Roll(g.l, g.p, g.b, g.r, row.Birth, pick)
	if g.lives(e) {
		ok(g.t, "Roll", e)
		g.k.Drop(row.Birth)
	}
}

// check looks at a checkpoint's answer, and at all that it leaves on the disk.
func (g *runner) check() {
	g.t.Helper()
	was, rows, dirty := g.state(), g.b.Rows(), g.p.Dirty()
	lsn, e := g.checkpoint()
	g.same("Checkpoint", e, func() api.Errno { return g.z.Checkpoint(len(dirty)) })
	if g.cut {
		return
	}
	if e != api.OK {
		if now := g.state(); lsn != 0 || !reflect.DeepEqual(now, was) {
			g.t.Fatalf("Checkpoint: refused, and yet %v became %v", was, now)
		}
		return
	}
	g.checked++
	if lsn != was.end || g.d.Acts()-was.acts != 4 {
		g.t.Fatalf("Checkpoint: %d in %d acts, want %d", lsn, g.d.Acts()-was.acts, was.end)
	}
	g.wantLog(append(was.lines, line{lsn, api.Record{Kind: api.KCheck, Rows: rows, Dirty: dirty}})...)
	g.wantState(State{Turn: was.says.Turn + 1, Base: was.base, Check: lsn})
	g.says = append(g.says, g.c.State())
	g.wantSaid(left{g.c.State(), linesOf(g.l), g.d.Lasts().Pages})
}

func (g *runner) renew() {
	g.t.Helper()
	was := g.state()
	if len(was.rows) > 0 {
		g.noRenew(api.ErrOpen)
		g.same("Renew", api.ErrOpen, g.z.Renew)
		return
	}
	e := g.c.Renew()
	g.same("Renew", e, g.z.Renew)
	if g.cut {
		return
	}
	g.renewed++
	g.wantState(State{Turn: was.says.Turn + 1, Base: was.end - 1})
	g.wantLog()
	wantSame(g.t, g.pages(), was.pages)
	wantSame(g.t, g.d.Lasts().Pages, was.pages)
	if g.d.LogLen() != 0 || len(g.p.Dirty()) != 0 || g.l.Base() != was.end-1 || !reflect.DeepEqual(g.d.Lasts(), g.d.Image()) {
		g.t.Fatalf("Renew: %d bytes of log, %v dirty, base %d, want %d", g.d.LogLen(), g.p.Dirty(), g.l.Base(), was.end-1)
	}
	g.says = append(g.says, g.c.State())
	g.ground[g.l.Base()] = was.pages
}

// lastOf is the LSN of the last of these records, below an LSN, that lays bytes on a page; else what the page had when the log began.
func (g *runner) lastOf(y left, number, below int) int {
	lsn := lsnOf(g.ground[y.says.Base][number])
	for _, x := range y.lines {
		if (x.r.Kind == api.KUpdate || x.r.Kind == api.KUndo) && x.r.Page == number && x.lsn < below {
			lsn = x.lsn
		}
	}
	return lsn
}

// wantSaid looks that the pages lack nothing but what the checkpoint says that they may lack.
func (g *runner) wantSaid(y left) {
	g.t.Helper()
	if y.says.Check == 0 {
		return
	}
	recs, found := map[int]int{}, false
	for _, x := range y.lines {
		if x.lsn == y.says.Check && x.r.Kind == api.KCheck {
			found = true
			for _, d := range x.r.Dirty {
				recs[d.Page] = d.Lsn
			}
		}
	}
	if !found {
		g.t.Fatalf("the master says %v, and the log has no such checkpoint: %v", y.says, y.lines)
	}
	for number, b := range y.pages {
		below, named := recs[number]
		if !named {
			below = y.says.Check
		}
		if last := g.lastOf(y, number, below); lsnOf(b) < last {
			g.t.Fatalf("page %d has the LSN %d, and lacks %d; it is named: %v", number, lsnOf(b), last, named)
		}
	}
}

// wantHistory looks that each page is what the log tells of it up to the page's LSN.
func (g *runner) wantHistory(y left) {
	g.t.Helper()
	for number, b := range y.pages {
		at, e := page.Check(b, number, g.s.shape.Slots)
		ground := g.ground[y.says.Base][number]
		want := bytes.Clone(slotsOf(ground))
		if e != api.OK || at != g.lastOf(y, number, at+1) {
			g.t.Fatalf("page %d has the LSN %d (%d), of the records %v", number, at, e, y.lines)
		}
		for _, x := range y.lines {
			if (x.r.Kind == api.KUpdate || x.r.Kind == api.KUndo) && x.r.Page == number && x.lsn <= at {
				copy(want[x.r.From-16:], x.r.After)
			}
		}
		if !bytes.Equal(slotsOf(b), want) {
			g.t.Fatalf("page %d: % x, want % x", number, slotsOf(b), want)
		}
	}
}

func TestRuns(t *testing.T) { // P21.1, P21.2, P21.4
	checked, renewed := 0, 0
	for seed := range int64(300) {
		g := start(t, seed, 0)
		for range 150 {
			g.step()
			if used, kept := g.z.Used(); g.l.Bytes() != used || g.r.Kept() != kept {
				t.Fatalf("seed %d: %d bytes, %d kept, want %d, %d", seed, g.l.Bytes(), g.r.Kept(), used, kept)
			}
		}
		if g.cut || t.Failed() {
			t.Fatalf("seed %d", seed)
		}
		checked += g.checked
		renewed += g.renewed
	}
	if checked < 2000 || renewed < 900 {
		t.Errorf("%d checkpoints and %d logs alone", checked, renewed)
	}
}

// At each act a run may be cut, in a Checkpoint, in a Renew or elsewhere.
func TestRunsThatAreCut(t *testing.T) { // P21.4
	for seed := range int64(10) {
		whole := start(t, seed, 0)
		for range 80 {
			whole.step()
		}
		for stop := 1; ; stop++ {
			g := start(t, seed, stop)
			for i := 0; i < 80 && !g.cut; i++ {
				g.step()
			}
			if !g.cut {
				break
			}
			for _, log := range []int{0, 1, 46, -1, -2, g.dice.Intn(500)} {
				for _, keep := range [][]int{{0}, {1}, {g.dice.Intn(60), g.dice.Intn(3)}} {
					whole.crashed(g, api.Choice{Log: log, Keep: keep})
				}
			}
			if t.Failed() {
				t.Fatalf("seed %d, stop %d", seed, stop)
			}
		}
	}
}

// crashed holds what a crash of a cut run leaves against the whole run: its last master, or the one that comes then; of its log's records all that were flushed.
func (g *runner) crashed(cut *runner, c api.Choice) {
	g.t.Helper()
	y := cut.crash(c)
	n := len(cut.says)
	if y.says != g.says[n-1] && (n == len(g.says) || y.says != g.says[n]) {
		g.t.Fatalf("the master says %v behind %v of %v", y.says, cut.says, g.says)
	}
	all := g.logs[y.says.Base]
	if len(y.lines) > len(all) || !sameLines(y.lines, all[:len(y.lines)]) {
		g.t.Fatalf("the log %v is no beginning of %v", y.lines, all)
	}
	if y.says.Base == cut.l.Base() {
		for _, x := range all[len(y.lines):] {
			if x.lsn < cut.l.Flushed() {
				g.t.Fatalf("%d was flushed, and is not there: %v", x.lsn, y.lines)
			}
		}
	} else if len(y.lines) != 0 {
		g.t.Fatalf("behind the new master the log has %v", y.lines)
	}
	g.wantHistory(y)
	g.wantSaid(y)
}

// The same calls leave the same, each time.
func TestRunsTwice(t *testing.T) { // P21.1, P21.2
	for seed := range int64(20) {
		a, b := start(t, seed, 0), start(t, seed, 0)
		for range 100 {
			a.step()
			b.step()
		}
		if !reflect.DeepEqual(a.state(), b.state()) || !reflect.DeepEqual(a.says, b.says) {
			t.Fatalf("seed %d: two like runs part", seed)
		}
	}
}
