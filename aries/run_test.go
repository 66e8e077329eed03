package aries_test

import (
	"math/rand"
	"reflect"
	"slices"
	"testing"

	"tidemark/api"
	"tidemark/aries"
	"tidemark/image"
	"tidemark/look"
)

// again tells a second time what Run must do, call by call, on a world of its own.
func (x *world) again(found look.Result, s aries.Steps) (api.Report, api.Errno) {
	r := api.Report{Winners: found.Winners}
	for _, f := range linesOf(x.l) {
		isChange := f.r.Kind == 2 || f.r.Kind == 3
		if !isChange || f.lsn < found.Redo {
			continue
		}
		b, e := x.p.Pin(f.r.Page, 0)
		if e != api.OK {
			return api.Report{}, e
		}
		if s.Redo(f.lsn, f.r, lsnOf(b)) {
			b, _ = image.Lay(b, f.r.From, f.r.After)
			if e := x.p.Change(f.r.Page, b, f.lsn); e != api.OK {
				return api.Report{}, e
			}
			r.Redone++
		}
		x.p.Unpin(f.r.Page)
	}
	rows := slices.Clone(found.Rows)
	for i, lsn := range found.Undo {
		if e := x.undoAgain(lsn, found.Undo[i+1:], rows, s); e != api.OK {
			return api.Report{}, e
		}
		r.Undone++
	}
	for _, row := range rows {
		if _, e := x.l.Append(api.Record{Kind: 6, Birth: row.Birth, Prev: row.Last}); e != api.OK {
			return api.Report{}, e
		}
		r.Ends++
		if row.State != 3 {
			r.Losers = append(r.Losers, row.Birth)
		}
	}
	return r, api.OK
}

func (x *world) undoAgain(lsn int, left []int, rows []api.Row, s aries.Steps) api.Errno {
	u, e := x.l.Read(lsn)
	if e != api.OK {
		return e
	}
	next := 0
	for _, l := range left {
		if v, _ := x.l.Read(l); v.Birth == u.Birth {
			next = max(next, l)
		}
	}
	row := slices.IndexFunc(rows, func(r api.Row) bool { return r.Birth == u.Birth })
	b, e := x.p.Pin(u.Page, 0)
	if e != api.OK {
		return e
	}
	c, e := x.l.Append(api.Record{Kind: 3, Birth: u.Birth, Prev: rows[row].Last, Page: u.Page, From: u.From, After: u.Before, Next: next})
	if e != api.OK {
		return e
	}
	rows[row].Last = c
	if s.Lay(lsn, u, lsnOf(b)) {
		b, _ = image.Lay(b, u.From, u.Before)
		if e := x.p.Change(u.Page, b, c); e != api.OK {
			return e
		}
	}
	x.p.Unpin(u.Page)
	return api.OK
}

// scribe writes a seeded log that look takes.
type scribe struct {
	*world
	dice   *rand.Rand
	checks []int
}

func scribed(t *testing.T, seed int64) *scribe {
	t.Helper()
	r := rand.New(rand.NewSource(seed))
	s := setup{
		shape:  api.Shape{Pages: 1 + r.Intn(7), Slots: 1 + r.Intn(8), Log: 16384},
		frames: 2 + r.Intn(4), base: r.Intn(3) * 700,
	}
	g := &scribe{world: made(t, s), dice: r, checks: []int{0}}
	for range 10 + r.Intn(40) {
		g.step()
	}
	return g
}

func (g *scribe) step() {
	g.t.Helper()
	found := g.find(0)
	if len(found.Rows) == 0 || len(found.Rows) < 8 && g.dice.Intn(5) == 0 {
		for id := 1 + g.dice.Intn(8); ; id = 1 + id%64 {
			if !slices.ContainsFunc(found.Rows, func(r api.Row) bool { return r.Id == id }) {
				g.begin(id)
				return
			}
		}
	}
	row := found.Rows[g.dice.Intn(len(found.Rows))]
	switch k := g.dice.Intn(20); {
	case row.State == api.SCommitted:
		if k < 8 {
			g.end(row.Birth)
		}
	case k < 11 && row.State == api.SOpen:
		g.anyUpdate(row, found)
	case k < 14 && row.Next > 0:
		g.undoLast(row, found)
	case k < 16 && row.State == api.SOpen:
		g.commit(row.Birth)
	case k < 17 && row.State == api.SOpen:
		g.abort(row.Birth)
	case k < 19:
		if row.Next == 0 {
			g.end(row.Birth)
		}
	default:
		g.anyCheck(found)
	}
}

// anyUpdate changes a page that no other row has changed.
func (g *scribe) anyUpdate(row api.Row, found look.Result) {
	g.t.Helper()
	number := g.dice.Intn(g.s.shape.Pages)
	for _, f := range linesOf(g.l) {
		isThere := slices.ContainsFunc(found.Rows, func(r api.Row) bool { return r.Birth == f.r.Birth })
		if f.r.Kind == 2 && f.r.Page == number && isThere && f.r.Birth != row.Birth {
			return
		}
	}
	from := g.dice.Intn(16 * g.s.shape.Slots)
	g.update(row.Birth, number, 16+from, 1+g.dice.Intn(min(40, 16*g.s.shape.Slots-from)))
}

func (g *scribe) undoLast(row api.Row, found look.Result) {
	g.t.Helper()
	next := 0
	for _, lsn := range found.Undo {
		if u, _ := g.l.Read(lsn); u.Birth == row.Birth && lsn < row.Next {
			next = lsn
			break
		}
	}
	g.undo(row.Next, next)
}

func (g *scribe) anyCheck(found look.Result) {
	g.t.Helper()
	if slices.ContainsFunc(found.Rows, func(r api.Row) bool { return r.State == api.SCommitted }) {
		return
	}
	var dirty []api.Rec
	for number := range g.s.shape.Pages {
		if g.dice.Intn(3) == 0 {
			dirty = append(dirty, api.Rec{Page: number, Lsn: g.s.base + 1 + g.dice.Intn(g.l.End()-g.s.base)})
		}
	}
	g.checks = append(g.checks, g.checkpoint(dirty...))
}

// answers are steps whose answers hang on what they are asked alone; odd are those that pass over some.
func answers(odd int) *spy {
	if odd == 0 {
		return plainly()
	}
	return &spy{
		redo: func(lsn int, r api.Record, page int) bool { return page < lsn && (lsn+r.Page)%(odd+1) != 0 },
		lay:  func(lsn int, r api.Record, page int) bool { return (lsn+page)%(odd+1) != 0 },
	}
}

func TestScribedLogs(t *testing.T) { // P23.1 to P23.4, P23.7: against the second telling
	redone, undone, ends, winners := 0, 0, 0, 0
	for seed := range int64(300) {
		g := scribed(t, seed)
		for number := range g.s.shape.Pages {
			g.lasting(number, g.s.base+g.dice.Intn(g.l.Bytes()+1))
		}
		for _, check := range g.checks {
			for odd := range 3 {
				x, y := g.anew(), g.anew()
				s, w := answers(odd), answers(odd)
				want, e := y.again(y.find(check), w)
				ok(t, "the second telling", e)
				x.runs(x.find(check), s, want)
				if !sameQuestions(s.asked, w.asked) {
					t.Errorf("asked %v, want %v", s.asked, w.asked)
				}
				a, b := x.state(), y.state()
				if !sameLines(a.lines, b.lines) {
					t.Errorf("the log %v, want %v", a.lines, b.lines)
				}
				a.lines, b.lines = nil, nil
				if !reflect.DeepEqual(a, b) {
					t.Errorf("left %v, want %v", a, b)
				}
				x.wantNoPins()
				redone, undone, ends, winners = redone+want.Redone, undone+want.Undone, ends+want.Ends, winners+len(want.Winners)
			}
		}
		if t.Failed() {
			t.Fatalf("seed %d", seed)
		}
	}
	if redone < 2000 || undone < 2000 || ends < 2000 || winners < 2000 {
		t.Errorf("only %d redone, %d undone, %d ends, %d winners", redone, undone, ends, winners)
	}
}

func TestScribedLogsLeaveWinners(t *testing.T) { // P23.6: the winners' updates, by their LSNs, and nothing else
	for seed := range int64(300) {
		g := scribed(t, seed)
		for number := range g.s.shape.Pages {
			g.lasting(number, g.s.base+g.dice.Intn(g.l.Bytes()+1))
		}
		x := g.anew()
		found := x.find(0)
		lines := linesOf(x.l)
		_, e := x.run(found, aries.Plain{})
		ok(t, "Run", e)
		for number, got := range x.slots() {
			if want := wonOf(lines, make([]byte, len(got)), number); !slices.Equal(got, want) {
				t.Fatalf("seed %d, page %d: % x, want % x", seed, number, got, want)
			}
		}
		// What stands in the log then says that all is over.
		if left := x.find(0); len(left.Rows)+len(left.Undo) > 0 || !slices.Equal(left.Winners, found.Winners) {
			t.Fatalf("seed %d: found behind Run: %v", seed, left)
		}
	}
}

// wonOf lays the winners' updates of a page over what it had.
func wonOf(lines []line, was []byte, number int) []byte {
	winners := map[int]bool{}
	for _, x := range lines {
		if x.r.Kind == 4 {
			winners[x.r.Birth] = true
		}
	}
	_, slots := told(slices.DeleteFunc(slices.Clone(lines), func(x line) bool { return x.r.Kind != 2 || !winners[x.r.Birth] }), was, number, 1<<60)
	return slots
}
