package choose_test

import (
	"math/rand"
	"slices"
	"testing"

	"tidemark/api"
	"tidemark/aries"
	"tidemark/choose"
	"tidemark/image"
	"tidemark/look"
)

// again tells a second time what Run must do, call by call, on a world of its own; and how often undo left a page as it was.
func (x *world) again(found look.Result) (api.Report, int, api.Errno) {
	s := wanted{found.Fresh}
	r := api.Report{Winners: found.Winners}
	for _, f := range linesOf(x.l) {
		isChange := f.r.Kind == 2 || f.r.Kind == 3
		if !isChange || f.lsn < found.Redo {
			continue
		}
		b, e := x.p.Pin(f.r.Page, 0)
		if e != api.OK {
			return api.Report{}, 0, e
		}
		if s.Redo(f.lsn, f.r, lsnOf(b)) {
			b, _ = image.Lay(b, f.r.From, f.r.After)
			if e := x.p.Change(f.r.Page, b, f.lsn); e != api.OK {
				return api.Report{}, 0, e
			}
			r.Redone++
		}
		x.p.Unpin(f.r.Page)
	}
	rows, left := slices.Clone(found.Rows), 0
	for i, lsn := range found.Undo {
		isLaid, e := x.undoAgain(lsn, found.Undo[i+1:], rows, s)
		if e != api.OK {
			return api.Report{}, 0, e
		}
		if !isLaid {
			left++
		}
		r.Undone++
	}
	for _, row := range rows {
		if _, e := x.l.Append(api.Record{Kind: 6, Birth: row.Birth, Prev: row.Last}); e != api.OK {
			return api.Report{}, 0, e
		}
		r.Ends++
		if row.State != 3 {
			r.Losers = append(r.Losers, row.Birth)
		}
	}
	return r, left, api.OK
}

func (x *world) undoAgain(lsn int, left []int, rows []api.Row, s wanted) (bool, api.Errno) {
	u, e := x.l.Read(lsn)
	if e != api.OK {
		return false, e
	}
	next := 0
	for _, l := range left {
		if v, _ := x.l.Read(l); v.Birth == u.Birth {
			next = max(next, l)
		}
	}
	row := slices.IndexFunc(rows, func(r api.Row) bool { return r.Birth == u.Birth })
	b, e := x.p.Pin(u.Page, 0)
	if e != api.OK {
		return false, e
	}
	defer x.p.Unpin(u.Page)
	c, e := x.l.Append(api.Record{Kind: 3, Birth: u.Birth, Prev: rows[row].Last, Page: u.Page, From: u.From, After: u.Before, Next: next})
	if e != api.OK {
		return false, e
	}
	rows[row].Last = c
	if !s.Lay(lsn, u, lsnOf(b)) {
		return false, api.OK
	}
	b, _ = image.Lay(b, u.From, u.Before)
	return true, x.p.Change(u.Page, b, c)
}

// scribe writes a seeded log that look takes.
type scribe struct {
	*world
	dice   *rand.Rand
	checks []int
}

// scribed gives such a log on a disk whose pages are each at a place of their history.
func scribed(t *testing.T, seed int64) *scribe {
	t.Helper()
	r := rand.New(rand.NewSource(seed))
	s := setup{
		shape:  api.Shape{Pages: 1 + r.Intn(7), Slots: 1 + r.Intn(8), Log: 16384},
		frames: 2 + r.Intn(4), base: r.Intn(3) * 700,
	}
	g := &scribe{world: made(t, s), dice: r, checks: []int{0}}
	for range 10 + r.Intn(40) {
		g.step()
	}
	for number := range s.shape.Pages {
		g.lasting(number, s.base+r.Intn(g.l.Bytes()+1))
	}
	return g
}

func (g *scribe) step() {
	g.t.Helper()
	found := g.find(0)
	if len(found.Rows) == 0 || len(found.Rows) < 8 && g.dice.Intn(5) == 0 {
		for id := 1 + g.dice.Intn(8); ; id = 1 + id%64 {
			if !slices.ContainsFunc(found.Rows, func(r api.Row) bool { return r.Id == id }) {
				g.begin(id)
				return
			}
		}
	}
	row := found.Rows[g.dice.Intn(len(found.Rows))]
	switch k := g.dice.Intn(24); {
	case row.State == api.SCommitted:
		if k < 10 {
			g.end(row.Birth)
		}
	case k < 15 && row.State == api.SOpen:
		g.anyUpdate(row, found)
	case k < 17 && row.Next > 0:
		g.undoLast(row, found)
	case k < 20 && row.State == api.SOpen:
		g.commit(row.Birth)
	case k < 21 && row.State == api.SOpen:
		g.abort(row.Birth)
	case k < 23:
		if row.Next == 0 {
			g.end(row.Birth)
		}
	default:
		g.anyCheck(found)
	}
}

// anyUpdate changes a page that no other row has changed.
func (g *scribe) anyUpdate(row api.Row, found look.Result) {
	g.t.Helper()
	number := g.dice.Intn(g.s.shape.Pages)
	for _, f := range linesOf(g.l) {
		isThere := slices.ContainsFunc(found.Rows, func(r api.Row) bool { return r.Birth == f.r.Birth })
		if f.r.Kind == 2 && f.r.Page == number && isThere && f.r.Birth != row.Birth {
			return
		}
	}
	from := g.dice.Intn(16 * g.s.shape.Slots)
	g.update(row.Birth, number, 16+from, 1+g.dice.Intn(min(40, 16*g.s.shape.Slots-from)))
}

func (g *scribe) undoLast(row api.Row, found look.Result) {
	g.t.Helper()
	next := 0
	for _, lsn := range found.Undo {
		if u, _ := g.l.Read(lsn); u.Birth == row.Birth && lsn < row.Next {
			next = lsn
			break
		}
	}
	g.undo(row.Next, next)
}

func (g *scribe) anyCheck(found look.Result) {
	g.t.Helper()
	if slices.ContainsFunc(found.Rows, func(r api.Row) bool { return r.State == api.SCommitted }) {
		return
	}
	var dirty []api.Rec
	for number := range g.s.shape.Pages {
		if g.dice.Intn(3) == 0 {
			dirty = append(dirty, api.Rec{Page: number, Lsn: g.s.base + 1 + g.dice.Intn(g.l.End()-g.s.base)})
		}
	}
	g.checks = append(g.checks, g.checkpoint(dirty...))
}

func TestScribedLogs(t *testing.T) { // P24.2, P24.4: against the second telling, and against aries.Run with New's steps
	redone, undone, left, fresh := 0, 0, 0, 0
	for seed := range int64(300) {
		g := scribed(t, seed)
		for _, check := range g.checks {
			x, y, z := g.anew(), g.anew(), g.anew()
			found := x.find(check)
			want, n, e := y.again(found)
			ok(t, "the second telling", e)
			x.runs(found, want)
			x.wantLike(y)
			x.wantNoPins()
			r, e := aries.Run(z.l, z.p, found, choose.New(found))
			if e != api.OK || !sameReport(r, want) {
				t.Errorf("aries.Run: %v, %d, want %v", r, e, want)
			}
			x.wantLike(z)
			redone, undone, left, fresh = redone+want.Redone, undone+want.Undone, left+n, fresh+len(found.Fresh)
		}
		if t.Failed() {
			t.Fatalf("seed %d", seed)
		}
	}
	if redone < 1000 || undone < 1000 || left < 200 || undone-left < 200 || fresh < 500 {
		t.Errorf("only %d redone, %d undone, %d of them left as they were, %d fresh", redone, undone, left, fresh)
	}
}

func TestScribedLogsAgainstAries(t *testing.T) { // P24.3: both managers leave the same, which is the winners' updates
	less := 0
	for seed := range int64(400) {
		g := scribed(t, 1000+seed)
		x, y := g.anew(), g.anew()
		lines := linesOf(x.l)
		less += sidesWith(t, x, y, 0)
		for number, got := range x.slots() {
			if want := wonOf(lines, make([]byte, len(got)), number); !slices.Equal(got, want) {
				t.Errorf("page %d: % x, want % x", number, got, want)
			}
		}
		// What stands in the log then says that all is over.
		if left := x.find(0); len(left.Rows)+len(left.Undo) > 0 {
			t.Errorf("found behind Run: %v", left)
		}
		if t.Failed() {
			t.Fatalf("seed %d", 1000+seed)
		}
	}
	if less < 500 {
		t.Errorf("Choose laid only %d records less", less)
	}
}

// wonOf lays the winners' updates of a page over what it had.
func wonOf(lines []line, was []byte, number int) []byte {
	winners := map[int]bool{}
	for _, x := range lines {
		if x.r.Kind == 4 {
			winners[x.r.Birth] = true
		}
	}
	_, slots := told(slices.DeleteFunc(slices.Clone(lines), func(x line) bool { return x.r.Kind != 2 || !winners[x.r.Birth] }), was, number, 1<<60)
	return slots
}

// What was appended so far lasts, and the pages that went out; what comes then is begun anew from that, by either manager.
func TestScribedLogsCutBetweenRecords(t *testing.T) { // P24.3
	cuts := 0
	for seed := range int64(80) {
		g := scribed(t, 2000+seed)
		whole := g.anew()
		lines := linesOf(whole.l)
		_, e := whole.run(whole.find(0))
		ok(t, "Run", e)
		want := whole.slots()
		all := linesOf(whole.l)
		for kept := len(lines); kept <= len(all); kept++ {
			for manager := range 2 {
				x := g.anew()
				for _, f := range all[len(lines):kept] {
					x.append(f.r)
				}
				y := x.anew()
				if manager == 0 {
					_, e = y.run(y.find(0))
				} else {
					_, e = aries.Run(y.l, y.p, y.find(0), aries.Plain{})
				}
				ok(t, "Run", e)
				if got := y.slots(); !slices.EqualFunc(got, want, slices.Equal) {
					t.Fatalf("seed %d, %d records kept: % x, want % x", 2000+seed, kept, got, want)
				}
				cuts++
			}
		}
	}
	if cuts < 500 {
		t.Errorf("only %d cuts", cuts)
	}
}
