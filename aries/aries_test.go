package aries_test

import (
	"bytes"
	"math"
	"reflect"
	"slices"
	"testing"

	"tidemark/api"
	"tidemark/aries"
	"tidemark/look"
)

func TestPlain(t *testing.T) { // Plain's answers, as the chapter's section Types says them
	edges := []int{math.MinInt, math.MinInt + 1, -2, -1, 0, 1, 2, 34, 35, 36, 1<<60 - 1, 1 << 60, 1<<60 + 1, math.MaxInt - 1, math.MaxInt}
	var s aries.Steps = aries.Plain{}
	for kind := -1; kind <= 8; kind++ {
		for _, r := range []api.Record{{Kind: kind}, {Kind: kind, Birth: 35, Prev: 36, Id: 1, Page: 1, From: 16, Before: []byte{1}, After: []byte{2}, Next: 34}} {
			for _, lsn := range edges {
				for _, page := range edges {
					if s.Redo(lsn, r, page) != (page < lsn) || !s.Lay(lsn, r, page) {
						t.Errorf("of %v at %d, the page at %d: Redo %v, Lay %v", r, lsn, page, s.Redo(lsn, r, page), s.Lay(lsn, r, page))
					}
				}
			}
		}
	}
}

// example gives the chapter's log on a disk whose pages have these LSNs.
func example(t *testing.T, zero, one int) *world {
	t.Helper()
	x := made(t, small())
	slot := []byte{1, 0, 0, 0, 8, 0, 0, 0, 5}
	for i, r := range []api.Record{
		{Kind: api.KBegin, Id: 1},
		{Kind: api.KUpdate, Birth: 1, Prev: 1, Page: 0, From: 16, Before: make([]byte, 9), After: slot},
		{Kind: api.KBegin, Id: 2},
		{Kind: api.KUpdate, Birth: 91, Prev: 91, Page: 1, From: 16, Before: []byte{0}, After: []byte{1}},
		{Kind: api.KCommit, Birth: 91, Prev: 125},
	} {
		if lsn := x.append(r); lsn != []int{1, 35, 91, 125, 165}[i] {
			t.Fatalf("record %d has the LSN %d", i, lsn)
		}
	}
	x.lasting(0, zero)
	x.lasting(1, one)
	return x
}

// exampleFound is what the chapter says of it.
func exampleFound() look.Result {
	return look.Result{
		Rows:    []api.Row{{Birth: 1, Id: 1, State: api.SOpen, Last: 35, Next: 35}, {Birth: 91, Id: 2, State: api.SCommitted, Last: 165}},
		Winners: []int{91}, Fresh: []int{1}, Redo: 1, Undo: []int{35}, Bytes: 197,
	}
}

func exampleMore() []line {
	return []line{undoOf(198, 1, 35, 0, 16, make([]byte, 9), 0), endOf(253, 1, 198), endOf(286, 91, 165)}
}

func TestExamples(t *testing.T) { // P23.1 to P23.4: the chapter's examples, and both pages there
	for _, c := range []struct {
		zero, one, redone int
		dirty             []api.Rec
	}{
		{0, 0, 2, []api.Rec{{Page: 0, Lsn: 35}, {Page: 1, Lsn: 125}}},
		{35, 0, 1, []api.Rec{{Page: 0, Lsn: 198}, {Page: 1, Lsn: 125}}},
		{0, 125, 1, []api.Rec{{Page: 0, Lsn: 35}}},
		{35, 125, 0, []api.Rec{{Page: 0, Lsn: 198}}},
	} {
		x := example(t, c.zero, c.one)
		if got := x.find(0); !reflect.DeepEqual(got, exampleFound()) {
			t.Fatalf("found: %v", got)
		}
		were, read, acts := linesOf(x.l), x.d.Image(), x.d.Acts()
		x.runs(exampleFound(), aries.Plain{}, api.Report{Winners: []int{91}, Losers: []int{1}, Redone: c.redone, Undone: 1, Ends: 2})
		x.wantMore(were, exampleMore()...)
		x.wantPage(0, sheet(0, 198, make([]byte, 32)...))
		x.wantPage(1, sheet(1, 125, slotsWith(2, 16, 1)...))
		if got := x.p.Dirty(); !slices.Equal(got, c.dirty) {
			t.Errorf("dirty: %v, want %v", got, c.dirty)
		}
		if x.l.End() != 319 || x.l.Flushed() != 198 || x.d.Acts()-acts != 2 || !reflect.DeepEqual(x.d.Image(), read) {
			t.Errorf("End %d, Flushed %d, %d acts: want both pages read, and nothing written", x.l.End(), x.l.Flushed(), x.d.Acts()-acts)
		}
		x.wantNoPins()
	}
}

func TestNothingFound(t *testing.T) { // P23.1 to P23.4: no records; records of which nothing is to be done
	x := made(t, wide())
	x.runs(x.find(0), aries.Plain{}, api.Report{})
	if x.d.Acts() != 1 || x.l.Bytes() != 0 {
		t.Errorf("%d acts, %d bytes", x.d.Acts(), x.l.Bytes())
	}
	a := x.begin(3)
	x.end(a)
	b := x.begin(3)
	x.commit(b)
	x.end(b)
	x.checkpoint()
	were, s := linesOf(x.l), plainly()
	for _, check := range []int{0, x.check} {
		x.runs(x.find(check), s, api.Report{Winners: []int{b}})
	}
	x.wantMore(were)
	if x.d.Acts() != 1 || len(x.p.Held()) != 0 || len(s.asked) != 0 {
		t.Errorf("%d acts, held %v, asked %v", x.d.Acts(), x.p.Held(), s.asked)
	}
}

// history has all kinds of records: a loser that is fresh, one that goes back and is half undone, one that only began, a winner that is over, one that is not, and one that went back whole.
func history(t *testing.T, s setup) (*world, map[string]int) {
	t.Helper()
	x := made(t, s)
	m := map[string]int{}
	m["over"] = x.begin(1)
	m["over 0"] = x.update(m["over"], 0, 16, 3)
	m["half"] = x.begin(2)
	m["half 1"] = x.update(m["half"], 1, 20, 4)
	x.commit(m["over"])
	x.end(m["over"])
	m["fresh"] = x.begin(3)
	m["fresh 0"] = x.update(m["fresh"], 0, 17, 1)
	m["back"] = x.begin(1)
	m["back 2"] = x.update(m["back"], 2, 31, 2)
	m["half 1b"] = x.update(m["half"], 1, 16, 9)
	m["check"] = x.checkpoint(api.Rec{Page: 1, Lsn: m["half 1b"]}, api.Rec{Page: 2, Lsn: m["back 2"]})
	x.abort(m["back"])
	m["back 2u"] = x.undo(m["back 2"], 0)
	x.end(m["back"])
	m["won"] = x.begin(4)
	m["won 2"] = x.update(m["won"], 2, 16, 16)
	m["half 3"] = x.update(m["half"], 3, 16, 1)
	x.abort(m["half"])
	m["half 3u"] = x.undo(m["half 3"], m["half 1b"])
	m["fresh 0b"] = x.update(m["fresh"], 0, 16, 5)
	m["only"] = x.begin(5)
	m["commit"] = x.commit(m["won"])
	return x, m
}

func TestRedoAsksAboutEachRecord(t *testing.T) { // P23.1: in their order, from Redo on, with the page's LSN
	x, m := history(t, wide())
	all := []string{"over 0", "half 1", "fresh 0", "back 2", "half 1b", "back 2u", "won 2", "half 3", "half 3u", "fresh 0b"}
	pages := []int{0, 1, 0, 2, 1, 2, 2, 3, 3, 0}
	behind := []string{"", "", "over 0", "", "half 1", "back 2", "back 2u", "", "half 3", "fresh 0"}
	for check, first := range map[int]int{0: 0, m["check"]: 3} {
		y := x.anew()
		s := plainly()
		y.run(y.find(check), s)
		if len(s.asked) < len(all)-first {
			t.Fatalf("asked %v", s.asked)
		}
		for i, name := range all[first:] {
			got, at := s.asked[i], m[behind[first+i]]
			if !slices.Contains(all[first:], behind[first+i]) {
				at = 0 // what is ahead of Redo is not laid, though the page lacks it
			}
			if got.what != "Redo" || got.lsn != m[name] || got.r.Page != pages[first+i] || got.page != at {
				t.Errorf("from %d on, question %d: %v, want of %s at %d, page %d at %d", first, i, got, name, m[name], pages[first+i], at)
			}
			if r, e := x.l.Read(got.lsn); e != api.OK || !sameLine(line{got.lsn, r}, got.line) {
				t.Errorf("asked of %v, the log has %v", got.r, r)
			}
		}
		for _, q := range s.asked[len(all)-first:] {
			if q.what != "Lay" {
				t.Errorf("from %d on: %v behind the last record", first, q)
			}
		}
	}
}

func TestRedoLaysWhatIsLacking(t *testing.T) { // P23.1: each page at each place of its history
	x, m := history(t, wide())
	lines := linesOf(x.l)
	for upTo := m["over"] - 1; upTo < x.l.End(); upTo += 17 {
		y := x.anew()
		want := 0
		for number := range 6 {
			y.lasting(number, upTo)
			at, _ := y.told(number, upTo)
			for _, r := range lines {
				if (r.r.Kind == api.KUpdate || r.r.Kind == api.KUndo) && r.r.Page == number && r.lsn > at {
					want++
				}
			}
		}
		found := y.find(0)
		found.Undo, found.Rows = nil, nil // redo alone is looked at
		y.runs(found, aries.Plain{}, api.Report{Winners: found.Winners, Redone: want})
		for number := range 6 {
			at, slots := x.told(number, x.l.End())
			if at == 0 {
				y.wantPage(number, make([]byte, len(slots)+24))
				continue
			}
			y.wantPage(number, sheet(number, at, slots...))
		}
	}
}

func TestRedoPassesOver(t *testing.T) { // P23.1: what s says no to is not laid, and does not count
	x, m := history(t, wide())
	for _, over := range []string{"over 0", "half 1", "fresh 0", "back 2", "half 1b", "back 2u", "won 2", "half 3", "half 3u", "fresh 0b"} {
		y := x.anew()
		s := &spy{redo: func(lsn int, r api.Record, page int) bool { return lsn != m[over] }, lay: no}
		r, e := y.run(y.find(0), s)
		if e != api.OK || r.Redone != 9 {
			t.Errorf("without %s: %v, %d", over, r, e)
		}
		for number := range 6 {
			lines := slices.DeleteFunc(linesOf(x.l), func(r line) bool { return r.lsn == m[over] })
			at, slots := told(lines, make([]byte, 48), number, x.l.End())
			if at > 0 {
				y.wantPage(number, sheet(number, at, slots...))
			}
		}
	}
}

func TestUndo(t *testing.T) { // P23.2, P23.3: three losers, their updates one among the other, and two winners
	x, m := history(t, wide())
	end := x.l.End()
	zeros, ahead := make([]byte, 9), []byte{1, 1, 1, 0, 0}
	ahead[1]++ // the fresh one's first update
	want := []line{
		undoOf(end, m["fresh"], m["fresh 0b"], 0, 16, ahead, m["fresh 0"]),
		undoOf(end+51, m["half"], m["half 3u"], 1, 16, append(zeros[:4:4], 1, 1, 1, 1, 0), m["half 1"]),
		undoOf(end+106, m["fresh"], end, 0, 17, []byte{1}, 0),
		undoOf(end+153, m["half"], end+51, 1, 20, make([]byte, 4), 0),
		endOf(end+203, m["half"], end+153),
		endOf(end+236, m["fresh"], end+106),
		endOf(end+269, m["won"], m["commit"]),
		endOf(end+302, m["only"], m["only"]),
	}
	y := x.anew()
	were, s := linesOf(y.l), plainly()
	y.runs(y.find(0), s, api.Report{Winners: []int{m["over"], m["won"]}, Losers: []int{m["half"], m["fresh"], m["only"]}, Redone: 10, Undone: 4, Ends: 4})
	y.wantMore(were, want...)
	asked := s.asked[10:]
	for i, name := range []string{"fresh 0b", "half 1b", "fresh 0", "half 1"} {
		at := []int{m["fresh 0b"], m["half 1b"], end, end + 51}[i]
		r, _ := x.l.Read(m[name])
		if len(asked) != 4 || !sameQuestions(asked[i:i+1], []question{{"Lay", line{m[name], r}, at}}) {
			t.Errorf("asked %v, want of %s, the page at %d", asked, name, at)
		}
	}
	y.wantPage(0, sheet(0, end+106, slotsWith(3, 16, 1, 1, 1)...))
	y.wantPage(1, sheet(1, end+153, make([]byte, 48)...))
	y.wantPage(2, sheet(2, m["won 2"], slotsWith(3, 16, bytes.Repeat([]byte{1}, 16)...)...))
	y.wantPage(3, sheet(3, m["half 3u"], make([]byte, 48)...))
	y.wantNoPins()
}

func TestUndoPassesOver(t *testing.T) { // P23.2: what s says no to is not laid back; its record is there, and it counts
	x, m := history(t, wide())
	whole := x.anew()
	whole.run(whole.find(0), aries.Plain{})
	all := linesOf(whole.l)
	undo := []string{"fresh 0b", "half 1b", "fresh 0", "half 1"}
	for over := range 1 << len(undo) {
		y := x.anew()
		s := plainly()
		s.lay = func(lsn int, r api.Record, page int) bool {
			i := slices.IndexFunc(undo, func(name string) bool { return m[name] == lsn })
			return over>>i&1 == 0
		}
		y.runs(y.find(0), s, api.Report{Winners: []int{m["over"], m["won"]}, Losers: []int{m["half"], m["fresh"], m["only"]}, Redone: 10, Undone: 4, Ends: 4})
		if got := linesOf(y.l); !sameLines(got, all) {
			t.Errorf("%b: the log %v, want %v", over, got, all)
		}
		for number := range 4 {
			lines := slices.DeleteFunc(slices.Clone(all), func(r line) bool {
				i := slices.IndexFunc(all[len(all)-8:len(all)-4], func(c line) bool { return c.lsn == r.lsn })
				return i >= 0 && over>>i&1 == 1
			})
			at, slots := told(lines, make([]byte, 48), number, y.l.End())
			y.wantPage(number, sheet(number, at, slots...))
		}
	}
}

func TestNothingIsLaid(t *testing.T) { // P23.1, P23.2: each question once, and no page is changed
	x, m := history(t, wide())
	y := x.anew()
	y.lasting(0, m["over 0"])
	pages, s := y.pages(), never()
	y.runs(y.find(m["check"]), s, api.Report{Winners: []int{m["over"], m["won"]}, Losers: []int{m["half"], m["fresh"], m["only"]}, Undone: 4, Ends: 4})
	if len(s.asked) != 11 || len(y.p.Dirty()) != 0 || !reflect.DeepEqual(y.pages(), pages) {
		t.Errorf("asked %v, dirty %v", s.asked, y.p.Dirty())
	}
	for _, q := range s.asked {
		if at := map[int]int{0: m["over 0"]}[q.r.Page]; q.page != at {
			t.Errorf("asked %v, the page's LSN is %d", q, at)
		}
	}
}

func TestStates(t *testing.T) { // P23.3, P23.4: rows of each state, with and without updates
	x := made(t, wide())
	var births []int
	for id := 1; id <= 8; id++ {
		births = append(births, x.begin(id))
	}
	u := x.update(births[1], 0, 16, 1)
	x.update(births[3], 1, 16, 1)
	w := x.update(births[5], 2, 16, 1)
	a, b := x.abort(births[2]), x.abort(births[3])
	c, d := x.commit(births[4]), x.commit(births[5])
	y := x.update(births[6], 3, 16, 1)
	z := x.undo(y, 0) // SAborting without an abort
	were, end := linesOf(x.l), x.l.End()
	x.runs(x.find(0), aries.Plain{}, api.Report{
		Winners: []int{births[4], births[5]}, Losers: []int{births[0], births[1], births[2], births[3], births[6], births[7]},
		Redone: 5, Undone: 2, Ends: 8,
	})
	want := []line{undoOf(end, births[3], b, 1, 16, []byte{0}, 0), undoOf(end+47, births[1], u, 0, 16, []byte{0}, 0)}
	for i, last := range []int{births[0], end + 47, a, end, c, d, z, births[7]} {
		want = append(want, endOf(end+94+33*i, births[i], last))
	}
	x.wantMore(were, want...)
	for number, slots := range [][]byte{{0}, {0}, {1}, {0}, {0}, {0}} {
		at := []int{end + 47, end, w, z, 0, 0}[number]
		if b := x.page(number); lsnOf(b) != at || !bytes.Equal(slotsOf(b), slotsWith(3, 16, slots...)) {
			t.Errorf("page %d: % x, want the LSN %d and %v", number, b, at, slots)
		}
	}
}

func TestEachRange(t *testing.T) { // P23.1, P23.2: each range of a page's slots
	for slots := 1; slots <= 8; slots++ {
		s := setup{shape: api.Shape{Pages: 2, Slots: slots, Log: 1024}, frames: 2}
		for _, n := range []int{1, 2, 7, 16 * slots} {
			for _, from := range []int{16, 17, 16 + 16*slots - n} {
				if from+n > 16+16*slots {
					continue
				}
				x := made(t, s)
				a, b := x.begin(1), x.begin(2)
				u := x.update(a, 0, from, n)
				w := x.update(b, 1, from, n)
				x.commit(b)
				end := x.l.End()
				x.runs(x.find(0), aries.Plain{}, api.Report{Winners: []int{b}, Losers: []int{a}, Redone: 2, Undone: 1, Ends: 2})
				x.wantPage(0, sheet(0, end, make([]byte, 16*slots)...))
				x.wantPage(1, sheet(1, w, slotsWith(slots, from, bytes.Repeat([]byte{1}, n)...)...))
				if r, e := x.l.Read(end); e != api.OK || !sameLine(line{end, r}, undoOf(end, a, u, 0, from, make([]byte, n), 0)) {
					t.Errorf("%d bytes at %d: %v, %d", n, from, r, e)
				}
			}
		}
	}
}

func TestPick(t *testing.T) { // P23.1, P23.2, P23.4: of the pages that may go, the lowest goes; what is flushed is what the pool must
	s := wide()
	s.frames = 2
	x := made(t, s)
	a := x.begin(1)
	for number := range 4 {
		x.update(a, number, 16, 1)
	}
	ok(t, "Flush", x.l.Flush(x.l.End()))
	end := x.l.End()
	var held [][]int
	look := func(lsn int, r api.Record, page int) bool {
		held = append(held, x.p.Held())
		if !x.isPinned(r.Page) {
			t.Errorf("page %d is not pinned while s is asked", r.Page)
		}
		return true
	}
	x.runs(x.find(0), &spy{redo: look, lay: look}, api.Report{Losers: []int{a}, Redone: 4, Undone: 4, Ends: 1})
	if want := [][]int{{0}, {0, 1}, {1, 2}, {2, 3}, {2, 3}, {2, 3}, {1, 3}, {0, 3}}; !reflect.DeepEqual(held, want) {
		t.Errorf("held %v, want %v", held, want)
	}
	// Page 1 went last, behind its compensation: the log was flushed then, and what came behind is in memory.
	if x.l.Flushed() != end+3*47 {
		t.Errorf("flushed up to %d, want %d", x.l.Flushed(), end+3*47)
	}
	x.wantNoPins()
}

func TestPinsOfOthers(t *testing.T) { // P23.1, P23.2: a page that another has pinned stays so, and is pinned no more than that
	x, _ := history(t, wide())
	x.pin(0)
	x.pin(2)
	x.run(x.find(0), aries.Plain{})
	for number := range 6 {
		if x.isPinned(number) != (number == 0 || number == 2) {
			t.Errorf("page %d: pinned %v", number, x.isPinned(number))
		}
		x.p.Unpin(number)
	}
	x.wantNoPins()
}

func TestDirtyPagesInFrames(t *testing.T) { // P23.1: what is asked is the page's LSN in its frame
	x := example(t, 0, 0)
	b, e := x.p.Pin(0, 0)
	ok(t, "Pin", e)
	copy(b[16:], []byte{1, 0, 0, 0, 8, 0, 0, 0, 5})
	ok(t, "Change", x.p.Change(0, b, 35))
	x.p.Unpin(0)
	s := plainly()
	x.runs(exampleFound(), s, api.Report{Winners: []int{91}, Losers: []int{1}, Redone: 1, Undone: 1, Ends: 2})
	if len(s.asked) != 3 || s.asked[0].page != 35 || s.asked[1].page != 0 || s.asked[2].page != 35 {
		t.Errorf("asked %v", s.asked)
	}
}

func TestMemory(t *testing.T) { // P23.4, P23.7, and DOC.md's rule 2
	x, _ := history(t, wide())
	found := x.find(0)
	marked := look.Result{Redo: found.Redo, Bytes: found.Bytes}
	mark := []int{-7, -7, -7, -7, -7, -7}
	marked.Winners = append(slices.Clone(found.Winners), mark...)[:len(found.Winners)]
	marked.Fresh = append(slices.Clone(found.Fresh), mark...)[:len(found.Fresh)]
	marked.Undo = append(slices.Clone(found.Undo), mark...)[:len(found.Undo)]
	marked.Rows = append(slices.Clone(found.Rows), make([]api.Row, 6)...)[:len(found.Rows)]
	r, e := x.run(marked, aries.Plain{})
	ok(t, "Run", e)
	for _, list := range []*[]int{&r.Winners, &r.Losers} {
		all := (*list)[:cap(*list)]
		for i := range all {
			all[i] = -9
		}
	}
	for _, list := range [][]int{marked.Winners, marked.Fresh, marked.Undo} {
		if behind := list[len(list) : len(list)+6]; !slices.Equal(behind, mark) {
			t.Errorf("the spare room: %v", behind)
		}
	}
	if behind := marked.Rows[len(marked.Rows):][:6]; !slices.Equal(behind, make([]api.Row, 6)) {
		t.Errorf("the rows' spare room: %v", behind)
	}
	if !reflect.DeepEqual(marked, found) {
		t.Errorf("found is %v, was %v", marked, found)
	}
}

func TestListsOfOneReport(t *testing.T) { // DOC.md's rule 2: no two lists of one answer share memory
	x, _ := history(t, wide())
	r, e := x.run(x.find(0), aries.Plain{})
	ok(t, "Run", e)
	losers := slices.Clone(r.Losers)
	for i := range r.Winners[:cap(r.Winners)] {
		r.Winners[:cap(r.Winners)][i] = -9
	}
	if !slices.Equal(r.Losers, losers) {
		t.Errorf("losers: %v, were %v", r.Losers, losers)
	}
}

func TestRecordsThatStepsKeep(t *testing.T) { // P23.1: their lists are not changed behind the question
	x, _ := history(t, wide())
	s := plainly()
	x.run(x.find(0), s)
	if len(s.asked) != 14 {
		t.Fatalf("asked %v", s.asked)
	}
	for _, q := range s.asked {
		if r, e := x.l.Read(q.lsn); e != api.OK || !sameLine(line{q.lsn, r}, q.line) {
			t.Errorf("kept %v, the log has %v", q.line, r)
		}
	}
}

func TestRecordsThatStepsSpoil(t *testing.T) { // P23.1, P23.2: what is laid and logged is the record's, whatever s does to what it was handed
	x, _ := history(t, wide())
	whole, y := x.anew(), x.anew()
	want, e := whole.run(whole.find(0), aries.Plain{})
	ok(t, "Run", e)
	spoil := func(lsn int, r api.Record, page int) bool {
		for _, b := range [][]byte{r.Before, r.After} {
			for i := range b[:cap(b)] {
				b[:cap(b)][i] = 0xee
			}
		}
		return true
	}
	y.runs(y.find(0), &spy{redo: spoil, lay: spoil}, want)
	if !sameLines(linesOf(y.l), linesOf(whole.l)) || !reflect.DeepEqual(y.pages(), whole.pages()) {
		t.Errorf("the log %v, want %v", linesOf(y.l), linesOf(whole.l))
	}
}
