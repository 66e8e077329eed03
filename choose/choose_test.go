package choose_test

import (
	"bytes"
	"reflect"
	"slices"
	"testing"

	"tidemark/api"
	"tidemark/aries"
	"tidemark/look"
)

// example gives chapter 23's log on a disk whose pages have these LSNs.
func example(t *testing.T, zero, one int) *world {
	t.Helper()
	x := made(t, small())
	slot := []byte{1, 0, 0, 0, 8, 0, 0, 0, 5}
	for i, r := range []api.Record{
		{Kind: api.KBegin, Id: 1},
		{Kind: api.KUpdate, Birth: 1, Prev: 1, Page: 0, From: 16, Before: make([]byte, 9), After: slot},
		{Kind: api.KBegin, Id: 2},
		{Kind: api.KUpdate, Birth: 91, Prev: 91, Page: 1, From: 16, Before: []byte{0}, After: []byte{1}},
		{Kind: api.KCommit, Birth: 91, Prev: 125},
	} {
		if lsn := x.append(r); lsn != []int{1, 35, 91, 125, 165}[i] {
			t.Fatalf("record %d has the LSN %d", i, lsn)
		}
	}
	x.lasting(0, zero)
	x.lasting(1, one)
	return x
}

// exampleFound is what the chapters say of it.
func exampleFound() look.Result {
	return look.Result{
		Rows:    []api.Row{{Birth: 1, Id: 1, State: api.SOpen, Last: 35, Next: 35}, {Birth: 91, Id: 2, State: api.SCommitted, Last: 165}},
		Winners: []int{91}, Fresh: []int{1}, Redo: 1, Undo: []int{35}, Bytes: 197,
	}
}

func exampleMore() []line {
	return []line{undoOf(198, 1, 35, 0, 16, make([]byte, 9), 0), endOf(253, 1, 198), endOf(286, 91, 165)}
}

func TestExamples(t *testing.T) { // P24.2: the chapter's examples 2 and 3, and page 1 there
	for _, c := range []struct {
		zero, one, redone, at int
		dirty                 []api.Rec
	}{
		{0, 0, 1, 0, []api.Rec{{Page: 1, Lsn: 125}}},
		{35, 0, 1, 198, []api.Rec{{Page: 0, Lsn: 198}, {Page: 1, Lsn: 125}}},
		{0, 125, 0, 0, nil},
		{35, 125, 0, 198, []api.Rec{{Page: 0, Lsn: 198}}},
	} {
		x := example(t, c.zero, c.one)
		if got := x.find(0); !reflect.DeepEqual(got, exampleFound()) {
			t.Fatalf("found: %v", got)
		}
		were, read, acts := linesOf(x.l), x.d.Image(), x.d.Acts()
		x.runs(exampleFound(), api.Report{Winners: []int{91}, Losers: []int{1}, Redone: c.redone, Undone: 1, Ends: 2})
		x.wantMore(were, exampleMore()...)
		x.wantPage(0, sheet(0, c.at, make([]byte, 32)...))
		x.wantPage(1, sheet(1, 125, slotsWith(2, 16, 1)...))
		if got := x.p.Dirty(); !slices.Equal(got, c.dirty) {
			t.Errorf("dirty: %v, want %v", got, c.dirty)
		}
		if x.l.End() != 319 || x.l.Flushed() != 198 || x.d.Acts()-acts != 2 || !reflect.DeepEqual(x.d.Image(), read) {
			t.Errorf("End %d, Flushed %d, %d acts: want both pages read, and nothing written", x.l.End(), x.l.Flushed(), x.d.Acts()-acts)
		}
		x.wantNoPins()
	}
}

func TestNothingFound(t *testing.T) { // P24.2: no records; records of which nothing is to be done
	x := made(t, wide())
	x.runs(x.find(0), api.Report{})
	if x.d.Acts() != 1 || x.l.Bytes() != 0 {
		t.Errorf("%d acts, %d bytes", x.d.Acts(), x.l.Bytes())
	}
	a := x.begin(3)
	x.end(a)
	b := x.begin(3)
	x.commit(b)
	x.end(b)
	check := x.checkpoint()
	were := linesOf(x.l)
	for _, at := range []int{0, check} {
		x.runs(x.find(at), api.Report{Winners: []int{b}})
	}
	x.wantMore(were)
	if x.d.Acts() != 1 || len(x.p.Held()) != 0 {
		t.Errorf("%d acts, held %v", x.d.Acts(), x.p.Held())
	}
}

func TestAPageThatHasSome(t *testing.T) { // P24.1 to P24.3: a fresh loser's updates of one page, of which the page has the first so many
	x := made(t, wide())
	w := x.begin(1)
	won := x.update(w, 0, 16, 20)
	x.commit(w)
	x.end(w)
	a := x.begin(1)
	lsns := []int{x.update(a, 0, 16, 3), x.update(a, 0, 17, 6), x.update(a, 0, 30, 1), x.update(a, 0, 16, 48)}
	end := x.l.End()
	undone := []int{end, end + 94, end + 141, end + 193} // the compensations, from the last update to the first
	_, left := x.told(0, won)
	for i, upTo := range append([]int{0, won}, lsns...) {
		y := x.anew()
		y.lasting(0, upTo)
		redone := 0
		if upTo < won {
			redone = 1
		}
		y.runs(y.find(0), api.Report{Winners: []int{w}, Losers: []int{a}, Redone: redone, Undone: 4, Ends: 1})
		at := won // what the page lacked it lacks still
		if i > 1 {
			at = undone[3]
		}
		y.wantPage(0, sheet(0, at, left...))
		y.wantNoPins()

		// Either manager has written the same.
		z := x.anew()
		z.lasting(0, upTo)
		_, e := aries.Run(z.l, z.p, z.find(0), aries.Plain{})
		ok(t, "aries.Run", e)
		if !sameLines(linesOf(y.l), linesOf(z.l)) || !reflect.DeepEqual(y.slots(), z.slots()) {
			t.Errorf("up to %d: %v, aries writes %v", upTo, linesOf(y.l), linesOf(z.l))
		}
		for j, c := range undone {
			if r, e := y.l.Read(c); e != api.OK || r.Kind != api.KUndo || r.Birth != a || r.Next != append([]int{0}, lsns...)[3-j] {
				t.Errorf("up to %d: at %d %v, %d", upTo, c, r, e)
			}
		}
	}
}

func TestSomePagesHaveIt(t *testing.T) { // P24.1 to P24.3: a fresh loser's updates of three pages, each of which is there or not
	x := made(t, wide())
	a := x.begin(1)
	var lsns []int
	for number := range 3 {
		lsns = append(lsns, x.update(a, number, 16+number, 1))
	}
	end := x.l.End()
	for there := range 8 {
		y := x.anew()
		var dirty []api.Rec
		for number := range 3 {
			if there>>number&1 == 1 {
				y.lasting(number, lsns[number])
				dirty = append(dirty, api.Rec{Page: number, Lsn: end + 47*(2-number)})
			}
		}
		were := linesOf(y.l)
		y.runs(y.find(0), api.Report{Losers: []int{a}, Undone: 3, Ends: 1})
		y.wantMore(were,
			undoOf(end, a, lsns[2], 2, 18, []byte{0}, lsns[1]), undoOf(end+47, a, end, 1, 17, []byte{0}, lsns[0]),
			undoOf(end+94, a, end+47, 0, 16, []byte{0}, 0), endOf(end+141, a, end+94))
		if got := y.p.Dirty(); !slices.Equal(got, dirty) {
			t.Errorf("%b: dirty %v, want %v", there, got, dirty)
		}
		for number := range 3 {
			y.wantPage(number, sheet(number, there>>number&1*(end+47*(2-number)), make([]byte, 48)...))
		}
	}
}

func TestLosersThatAreNotFresh(t *testing.T) { // P24.1, P24.2: behind an abort or a compensation all is done again, and undone
	for _, how := range []string{"abort", "undo", "abort and undo"} {
		x := made(t, wide())
		a := x.begin(1)
		u, v := x.update(a, 0, 16, 1), x.update(a, 0, 20, 2)
		redone, undone, next := 2, 2, v
		if how != "undo" {
			x.abort(a)
		}
		if how != "abort" {
			x.undo(v, u)
			redone, undone, next = 3, 1, u
		}
		for _, upTo := range []int{0, u, v} {
			y := x.anew()
			y.lasting(0, upTo)
			end := y.l.End()
			lack := redone - slices.Index([]int{0, u, v}, upTo)
			y.runs(y.find(0), api.Report{Losers: []int{a}, Redone: lack, Undone: undone, Ends: 1})
			at := end
			if undone == 2 {
				at = end + 48
			}
			y.wantPage(0, sheet(0, at, make([]byte, 48)...))
			if r, e := y.l.Read(end); e != api.OK || r.Kind != api.KUndo || r.After[0] != 0 || r.From != map[int]int{u: 16, v: 20}[next] {
				t.Errorf("%s, up to %d: %v, %d", how, upTo, r, e)
			}
		}
	}
}

// history has all kinds of records: a loser that is fresh, one that goes back and is half undone, one that only began, a winner that is over, one that is not, and one that went back whole.
func history(t *testing.T, s setup) (*world, map[string]int) {
	t.Helper()
	x := made(t, s)
	m := map[string]int{}
	m["over"] = x.begin(1)
	m["over 0"] = x.update(m["over"], 0, 16, 3)
	m["half"] = x.begin(2)
	m["half 1"] = x.update(m["half"], 1, 20, 4)
	x.commit(m["over"])
	x.end(m["over"])
	m["fresh"] = x.begin(3)
	m["fresh 0"] = x.update(m["fresh"], 0, 17, 1)
	m["back"] = x.begin(1)
	m["back 2"] = x.update(m["back"], 2, 31, 2)
	m["half 1b"] = x.update(m["half"], 1, 16, 9)
	m["check"] = x.checkpoint(api.Rec{Page: 0, Lsn: m["fresh 0"]}, api.Rec{Page: 1, Lsn: m["half 1"]}, api.Rec{Page: 2, Lsn: m["back 2"]})
	x.abort(m["back"])
	m["back 2u"] = x.undo(m["back 2"], 0)
	x.end(m["back"])
	m["won"] = x.begin(4)
	m["won 2"] = x.update(m["won"], 2, 16, 16)
	m["half 3"] = x.update(m["half"], 3, 16, 1)
	x.abort(m["half"])
	m["half 3u"] = x.undo(m["half 3"], m["half 1b"])
	m["fresh 0b"] = x.update(m["fresh"], 0, 16, 5)
	m["fresh 4"] = x.update(m["fresh"], 4, 40, 2)
	m["only"] = x.begin(5)
	m["commit"] = x.commit(m["won"])
	return x, m
}

func TestHistory(t *testing.T) { // P24.1, P24.2: fresh ones among others, from the first record on and from a checkpoint on
	x, m := history(t, wide())
	x.lasting(0, m["fresh 0"])
	end := x.l.End()
	want := []line{
		undoOf(end, m["fresh"], m["fresh 4"], 4, 40, []byte{0, 0}, m["fresh 0b"]),
		undoOf(end+48, m["fresh"], end, 0, 16, []byte{1, 2, 1, 0, 0}, m["fresh 0"]),
		undoOf(end+99, m["half"], m["half 3u"], 1, 16, []byte{0, 0, 0, 0, 1, 1, 1, 1, 0}, m["half 1"]),
		undoOf(end+154, m["fresh"], end+48, 0, 17, []byte{1}, 0),
		undoOf(end+201, m["half"], end+99, 1, 20, make([]byte, 4), 0),
		endOf(end+251, m["half"], end+201),
		endOf(end+284, m["fresh"], end+154),
		endOf(end+317, m["won"], m["commit"]),
		endOf(end+350, m["only"], m["only"]),
	}
	for _, check := range []int{0, m["check"]} {
		y := x.anew()
		were := linesOf(y.l)
		y.runs(y.find(check), api.Report{Winners: []int{m["over"], m["won"]}, Losers: []int{m["half"], m["fresh"], m["only"]}, Redone: 7, Undone: 5, Ends: 4})
		y.wantMore(were, want...)
		y.wantPage(0, sheet(0, end+154, slotsWith(3, 16, 1, 1, 1)...))
		y.wantPage(1, sheet(1, end+201, make([]byte, 48)...))
		y.wantPage(2, sheet(2, m["won 2"], slotsWith(3, 16, bytes.Repeat([]byte{1}, 16)...)...))
		y.wantPage(3, sheet(3, m["half 3u"], make([]byte, 48)...))
		y.wantPage(4, make([]byte, 72))
		y.wantNoPins()
	}
}

func TestAgainstAriesByHand(t *testing.T) { // P24.3: each page at each place of its history
	x, m := history(t, wide())
	less := 0
	for number := range 6 {
		for upTo := m["over"] - 1; upTo < x.l.End(); upTo += 13 {
			y, z := x.anew(), x.anew()
			y.lasting(number, upTo)
			z.lasting(number, upTo)
			less += sidesWith(t, y, z, 0)
		}
	}
	if less == 0 {
		t.Errorf("Choose never laid less")
	}
}

// sidesWith runs both managers on two like worlds, looks at what P24.3 says, and tells how much less Choose has laid.
func sidesWith(t *testing.T, x, y *world, check int) int {
	t.Helper()
	r, e := x.run(x.find(check))
	ok(t, "Run", e)
	w, e := aries.Run(y.l, y.p, y.find(check), aries.Plain{})
	ok(t, "aries.Run", e)
	if !sameButRedone(r, w) || r.Redone > w.Redone {
		t.Errorf("Choose tells %v, Aries %v", r, w)
	}
	if !sameLines(linesOf(x.l), linesOf(y.l)) {
		t.Errorf("Choose leaves %v, Aries %v", linesOf(x.l), linesOf(y.l))
	}
	if a, b := x.slots(), y.slots(); !reflect.DeepEqual(a, b) {
		t.Errorf("Choose leaves % x, Aries % x", a, b)
	}
	x.wantNoPins()
	return w.Redone - r.Redone
}

func TestEachRange(t *testing.T) { // P24.2: each range of a page's slots, there and not
	for slots := 1; slots <= 8; slots++ {
		s := setup{shape: api.Shape{Pages: 2, Slots: slots, Log: 1024}, frames: 2}
		for _, n := range []int{1, 2, 7, 16 * slots} {
			for _, from := range []int{16, 17, 16 + 16*slots - n} {
				if from+n > 16+16*slots {
					continue
				}
				x := made(t, s)
				a, b := x.begin(1), x.begin(2)
				u := x.update(a, 0, from, n)
				w := x.update(b, 1, from, n)
				x.commit(b)
				for _, upTo := range []int{0, u} {
					y := x.anew()
					y.lasting(0, upTo)
					end, at := y.l.End(), 0
					if upTo == u {
						at = end
					}
					y.runs(y.find(0), api.Report{Winners: []int{b}, Losers: []int{a}, Redone: 1, Undone: 1, Ends: 2})
					y.wantPage(0, sheet(0, at, make([]byte, 16*slots)...))
					y.wantPage(1, sheet(1, w, slotsWith(slots, from, bytes.Repeat([]byte{1}, n)...)...))
					if r, e := y.l.Read(end); e != api.OK || !sameLine(line{end, r}, undoOf(end, a, u, 0, from, make([]byte, n), 0)) {
						t.Errorf("%d bytes at %d: %v, %d", n, from, r, e)
					}
				}
			}
		}
	}
}

func TestDirtyPagesInFrames(t *testing.T) { // P24.2: what counts is the page's LSN in its frame
	x := example(t, 0, 0)
	b, e := x.p.Pin(0, 0)
	ok(t, "Pin", e)
	copy(b[16:], []byte{1, 0, 0, 0, 8, 0, 0, 0, 5})
	ok(t, "Change", x.p.Change(0, b, 35))
	x.p.Unpin(0)
	x.runs(exampleFound(), api.Report{Winners: []int{91}, Losers: []int{1}, Redone: 1, Undone: 1, Ends: 2})
	x.wantPage(0, sheet(0, 198, make([]byte, 32)...))
}

func TestFoundSaysWhoIsFresh(t *testing.T) { // P24.2: the births are found's
	x := example(t, 0, 0)
	found := exampleFound()
	found.Fresh = nil
	x.runs(found, api.Report{Winners: []int{91}, Losers: []int{1}, Redone: 2, Undone: 1, Ends: 2})
	x.wantPage(0, sheet(0, 198, make([]byte, 32)...))
}

func TestMemory(t *testing.T) { // P24.4, and DOC.md's rule 2
	x, _ := history(t, wide())
	found := x.find(0)
	marked := look.Result{Redo: found.Redo, Bytes: found.Bytes}
	mark := []int{-7, -7, -7, -7, -7, -7}
	marked.Winners = append(slices.Clone(found.Winners), mark...)[:len(found.Winners)]
	marked.Fresh = append(slices.Clone(found.Fresh), mark...)[:len(found.Fresh)]
	marked.Undo = append(slices.Clone(found.Undo), mark...)[:len(found.Undo)]
	marked.Rows = append(slices.Clone(found.Rows), make([]api.Row, 6)...)[:len(found.Rows)]
	r, e := x.run(marked)
	ok(t, "Run", e)
	for _, list := range []*[]int{&r.Winners, &r.Losers} {
		all := (*list)[:cap(*list)]
		for i := range all {
			all[i] = -9
		}
	}
	for _, list := range [][]int{marked.Winners, marked.Fresh, marked.Undo} {
		if behind := list[len(list) : len(list)+6]; !slices.Equal(behind, mark) {
			t.Errorf("the spare room: %v", behind)
		}
	}
	if behind := marked.Rows[len(marked.Rows):][:6]; !slices.Equal(behind, make([]api.Row, 6)) {
		t.Errorf("the rows' spare room: %v", behind)
	}
	if !reflect.DeepEqual(marked, found) {
		t.Errorf("found is %v, was %v", marked, found)
	}
}

func TestListsOfOneReport(t *testing.T) { // P24.4, and DOC.md's rule 2: no two lists of one answer share memory
	x, m := history(t, wide())
	r, e := x.run(x.find(0))
	ok(t, "Run", e)
	for i := range r.Winners[:cap(r.Winners)] {
		r.Winners[:cap(r.Winners)][i] = -9
	}
	if !slices.Equal(r.Losers, []int{m["half"], m["fresh"], m["only"]}) {
		t.Errorf("losers: %v", r.Losers)
	}
}
