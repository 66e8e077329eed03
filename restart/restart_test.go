package restart_test

import (
	"bytes"
	"math"
	"reflect"
	"testing"

	"tidemark/api"
	"tidemark/disk"
	"tidemark/master"
	"tidemark/restart"
)

func TestRefused(t *testing.T) { // P25.1: example 1, and numbers of any size; on a dead disk, too; no act, and nothing is made to last
	for _, c := range []struct {
		frames, manager int
		want            api.Errno
	}{
		{1, api.Aries, api.ErrFrames}, {0, api.Choose, api.ErrFrames}, {-1, api.Aries, api.ErrFrames}, {17, api.Choose, api.ErrFrames},
		{math.MinInt, api.Aries, api.ErrFrames}, {math.MaxInt, api.Choose, api.ErrFrames},
		{2, 0, api.ErrManager}, {2, 3, api.ErrManager}, {1, 3, api.ErrManager}, {17, 0, api.ErrManager}, {16, -1, api.ErrManager},
		{2, math.MinInt, api.ErrManager}, {2, math.MaxInt, api.ErrManager},
	} {
		d := example(t).load()
		ok(t, "Append", d.Append([]byte{1}))
		acts, lasts := d.Acts(), d.Lasts()
		if _, e := run(t, d, c.frames, c.manager); e != c.want {
			t.Errorf("Run(%d, %d): %d, want %d", c.frames, c.manager, e, c.want)
		}
		if d.Acts() != acts || !reflect.DeepEqual(d.Lasts(), lasts) {
			t.Errorf("Run(%d, %d): %d acts", c.frames, c.manager, d.Acts()-acts)
		}
		d.Stop(1)
		if e := d.Sync(); e != api.ErrDead {
			t.Fatalf("Sync: %d", e)
		}
		if _, e := run(t, d, c.frames, c.manager); e != c.want {
			t.Errorf("a dead disk: Run(%d, %d): %d, want %d", c.frames, c.manager, e, c.want)
		}
	}
}

func TestFrames(t *testing.T) { // P25.1, P25.2: as many frames as may be
	for frames := 2; frames <= 16; frames++ {
		for _, manager := range []int{api.Aries, api.Choose} {
			runs(t, example(t).load(), frames, manager, exampleReport(3-manager), master.State{Turn: 2, Base: 318})
		}
	}
}

func TestDead(t *testing.T) { // P25.1: a dead disk; one that dies at each act; what was done so far stays done
	for _, manager := range []int{api.Aries, api.Choose} {
		w := example(t)
		w.page(0, 35, 16, 9)
		w.m.Pair = pairOf(1, sheet(1, 125, make([]byte, 32)))
		w.m.Log = append(w.m.Log, 1, 2, 3)
		whole := w.load()
		r, e := run(t, whole, 2, manager)
		ok(t, "Run", e)
		acts := whole.Acts()
		for stop := 1; stop <= acts+1; stop++ {
			d := w.load()
			d.Stop(stop)
			got, e := run(t, d, 2, manager)
			if stop > acts {
				if e != api.OK || !sameReport(got, r) || !sameImage(d.Image(), whole.Image()) {
					t.Errorf("stop %d: %v, %d", stop, got, e)
				}
				continue
			}
			if e != api.ErrDead || d.Acts() != stop-1 {
				t.Errorf("stop %d: %d, %d acts", stop, e, d.Acts())
			}
			was := d.Image()
			if _, e := run(t, d, 2, manager); e != api.ErrDead || d.Acts() != stop-1 || !sameImage(d.Image(), was) {
				t.Errorf("stop %d, a dead disk: %d, %d acts", stop, e, d.Acts())
			}
		}
	}
}

func TestDeadAheadOfCorrupt(t *testing.T) { // P25.1, P25.2: a disk that is refused, and dies ahead of that
	w := made(t, small())
	w.m.Pages[1][50] = 1
	whole := w.load()
	if _, e := run(t, whole, 2, api.Aries); e != api.ErrCorrupt {
		t.Fatalf("Run: %d", e)
	}
	for stop := 1; stop <= whole.Acts(); stop++ {
		d := w.load()
		d.Stop(stop)
		if _, e := run(t, d, 2, api.Aries); e != api.ErrDead || !sameImage(d.Image(), w.m) {
			t.Errorf("stop %d: %d", stop, e)
		}
	}
}

func TestNew(t *testing.T) { // P25.2, P25.3: example 2: a new disk, and again, by either manager; shapes of any size
	for _, s := range []api.Shape{small(), {Pages: 1, Slots: 1, Log: 1024}, {Pages: 16, Slots: 8, Log: 65536}} {
		for _, first := range []int{api.Aries, api.Choose} {
			d, e := disk.New(s)
			ok(t, "disk.New", e)
			for turn := 1; turn < 6; turn++ {
				runs(t, d, 2, 1+(first+turn)%2, api.Report{}, master.State{Turn: turn})
				for number, b := range d.Image().Pages {
					if !isZeros(b) {
						t.Errorf("page %d: % x", number, b)
					}
				}
			}
		}
	}
}

func TestNewWithMastersOfAnyBytes(t *testing.T) { // P25.2: example 3's second half: neither master is right, and all else blank
	right := masterOf(master.State{Turn: 1, Base: 77})
	even := masterOf(master.State{Turn: 2, Base: 77})
	for _, m := range [][2][]byte{
		{make([]byte, 40), append(bytes.Clone(right[:20]), make([]byte, 20)...)},
		{make([]byte, 40), append(bytes.Clone(right[:39]), 1)},
		{right, even}, // each in the other's place
		{bytes.Repeat([]byte{255}, 40), bytes.Repeat([]byte{1}, 40)},
	} {
		w := made(t, small())
		w.m.Masters = m
		w.takes("masters of any bytes", master.State{Turn: 1}, api.Report{})
	}
}

func TestNoMaster(t *testing.T) { // P25.2: example 3's first half: each byte of pages and pair, and a log of any bytes
	w := made(t, small())
	for _, part := range append(w.m.Pages, w.m.Pair) {
		for i := range part {
			part[i] = 1
			w.corrupt("no master, and not new")
			part[i] = 0
		}
	}
	for _, log := range [][]byte{{0}, {1}, example(t).m.Log} {
		w.m.Log = log
		w.corrupt("no master, and a log")
	}
	w = example(t)
	w.m.Masters[1][20]++
	w.corrupt("the master is not right")
	for number := range 2 {
		w = made(t, small())
		w.page(number, 0, 16, 0)
		w.corrupt("no master, and a page that is right and empty, but not blank")
	}
}

func TestExample(t *testing.T) { // P25.2, P25.3: example 4, and a second Run
	one := sheet(1, 125, append([]byte{1}, make([]byte, 31)...))
	d := example(t).load()
	runs(t, d, 2, api.Aries, exampleReport(2), master.State{Turn: 2, Base: 318})
	m := d.Image()
	if !bytes.Equal(m.Pages[0], sheet(0, 198, make([]byte, 32))) || !bytes.Equal(m.Pages[1], one) {
		t.Errorf("by Aries: % x", m.Pages)
	}
	if !bytes.Equal(m.Masters[1], example(t).m.Masters[1]) {
		t.Errorf("the older master: % x", m.Masters[1])
	}
	d = example(t).load()
	runs(t, d, 2, api.Choose, exampleReport(1), master.State{Turn: 2, Base: 318})
	if m := d.Image(); !isZeros(m.Pages[0]) || !bytes.Equal(m.Pages[1], one) {
		t.Errorf("by Choose: % x", m.Pages)
	}
	pages := d.Image().Pages
	for turn := 3; turn < 9; turn++ {
		runs(t, d, 2, 1+turn%2, api.Report{}, master.State{Turn: turn, Base: 318})
		if !reflect.DeepEqual(d.Image().Pages, pages) {
			t.Errorf("turn %d: % x", turn, d.Image().Pages)
		}
	}
}

func TestLoose(t *testing.T) { // P25.2, step 1: what is loose is taken as it is read, and lasts, with an ErrCorrupt too
	w := example(t)
	for _, manager := range []int{api.Aries, api.Choose} {
		d, e := disk.New(small())
		ok(t, "disk.New", e)
		ok(t, "WriteMaster", d.WriteMaster(1, w.m.Masters[1]))
		ok(t, "Append", d.Append(w.m.Log))
		ok(t, "WritePage", d.WritePage(0, sheet(0, 35, make([]byte, 32))))
		runs(t, d, 2, manager, exampleReport(1), master.State{Turn: 2, Base: 318})

		d, e = disk.New(small())
		ok(t, "disk.New", e)
		ok(t, "WritePair", d.WritePair(bytes.Repeat([]byte{3}, 72)))
		ok(t, "Append", d.Append(w.m.Log))
		ok(t, "WritePage", d.WritePage(1, bytes.Repeat([]byte{4}, 56)))
		ok(t, "WriteMaster", d.WriteMaster(0, bytes.Repeat([]byte{5}, 40)))
		read := d.Image()
		if _, e := run(t, d, 2, manager); e != api.ErrCorrupt {
			t.Errorf("Run: %d", e)
		}
		if !sameImage(d.Image(), read) || !sameImage(d.Lasts(), read) {
			t.Errorf("what was loose does not last")
		}
	}
}

// The first three acts are SyncLog, Sync, SyncMasters.
func TestSyncsInTheirOrder(t *testing.T) { // P25.2, step 1
	w := example(t)
	for stop := 1; stop <= 4; stop++ {
		d, e := disk.New(small())
		ok(t, "disk.New", e)
		ok(t, "WriteMaster", d.WriteMaster(1, w.m.Masters[1]))
		ok(t, "WritePair", d.WritePair(bytes.Repeat([]byte{3}, 72)))
		ok(t, "Append", d.Append(w.m.Log))
		d.Stop(stop)
		if _, e := run(t, d, 2, api.Aries); e != api.ErrDead {
			t.Fatalf("stop %d: %d", stop, e)
		}
		m := d.Lasts()
		for k, lasts := range []bool{len(m.Log) > 0, m.Pair[0] == 3, m.Masters[1][0] == 1} {
			if lasts != (stop > k+1) {
				t.Errorf("stop %d: part %d lasts: %v", stop, k, lasts)
			}
		}
	}
}

func TestOldFrames(t *testing.T) { // P25.2: example 6's second half: frames whose LSNs don't fit the base are cut
	w := example(t)
	w.says(master.State{Turn: 2, Base: 70})
	w.takes("old frames", master.State{Turn: 3, Base: 70}, api.Report{})
	w = example(t)
	w.says(master.State{Turn: 2, Base: 70})
	w.page(0, 70, 16, 1)
	w.takes("old frames, a page from then", master.State{Turn: 3, Base: 70}, api.Report{})
	w.page(0, 71, 16, 1)
	w.corrupt("old frames, a page ahead of the base")
}

func TestBehindTheBeginning(t *testing.T) { // P25.2, step 4: what stands behind the beginning is cut, and counts for nothing
	for _, more := range [][]byte{{0}, {1, 2, 3}, example(t).m.Log, bytes.Repeat([]byte{9}, 1024-197)} {
		w := example(t)
		w.m.Log = append(w.m.Log, more...)
		w.takes("bytes behind", master.State{Turn: 2, Base: 318}, exampleReport(0))
	}
}

func TestCheckpoint(t *testing.T) { // P25.2: the master's checkpoint says from where on redo goes
	w := example(t)
	row := api.Row{Birth: 1, Id: 1, State: api.SOpen, Last: 35, Next: 35}
	w.end(91)
	at := w.log(api.Record{Kind: api.KCheck, Rows: []api.Row{row}, Dirty: []api.Rec{{Page: 0, Lsn: 35}}})
	w.says(master.State{Turn: 2, Check: at})
	w.page(1, 125, 16, 1)
	named := master.State{Turn: 3, Base: w.next() - 1 + 55 + 33}
	want := api.Report{Winners: []int{91}, Losers: []int{1}, Redone: 1, Undone: 1, Ends: 1}
	runs(t, w.load(), 2, api.Aries, want, named)
	want.Redone = 0
	runs(t, w.load(), 2, api.Choose, want, named)
	// With no dirty page and nothing behind it nothing is done again, whatever the pages lack.
	w = example(t)
	w.end(91)
	at = w.log(api.Record{Kind: api.KCheck, Rows: []api.Row{row}})
	w.says(master.State{Turn: 2, Check: at})
	d := w.load()
	runs(t, d, 2, api.Aries, want, master.State{Turn: 3, Base: w.next() - 1 + 55 + 33})
	if b := d.Image().Pages[1]; !isZeros(b) {
		t.Errorf("page 1: % x", b)
	}
}

func TestTheOlderMasterCounts(t *testing.T) { // P25.2, step 2: the newest right one, whatever stands in the other's place
	for _, other := range [][]byte{make([]byte, 40), masterOf(master.State{Turn: 2, Base: 900}), masterOf(master.State{Turn: 4, Base: 9})[:20]} {
		w := example(t)
		w.m.Masters[1] = masterOf(master.State{Turn: 3})
		copy(w.m.Masters[0], other)
		w.takes("turn 3", master.State{Turn: 4, Base: 318}, exampleReport(0))
	}
}

func TestStolen(t *testing.T) { // P25.2, P25.5: pages that have the loser's update, the winner's, both
	for zero := range 2 {
		for one := range 2 {
			for _, manager := range []int{api.Aries, api.Choose} {
				w := example(t)
				if zero == 1 {
					copy(slotsOf(w.page(0, 35, 16, 1)), []byte{1, 0, 0, 0, 8, 0, 0, 0, 5})
					w.m.Pages[0] = sheet(0, 35, slotsOf(w.m.Pages[0]))
				}
				if one == 1 {
					w.page(1, 125, 16, 1)
				}
				redone := 1 - one
				if manager == api.Aries {
					redone += 1 - zero
				}
				d := w.load()
				runs(t, d, 2, manager, exampleReport(redone), master.State{Turn: 2, Base: 318})
				m := d.Image()
				if !isZeros(slotsOf(m.Pages[0])) || !bytes.Equal(m.Pages[1], sheet(1, 125, append([]byte{1}, make([]byte, 31)...))) {
					t.Errorf("%d, %d by %d: % x", zero, one, manager, m.Pages)
				}
			}
		}
	}
}

func TestReportIsNewMemory(t *testing.T) { // P25.6
	d := example(t).load()
	a, e := restart.Run(d.Copy(), 2, api.Aries)
	ok(t, "Run", e)
	b, e := restart.Run(d.Copy(), 2, api.Choose)
	ok(t, "Run", e)
	for _, list := range [][]int{a.Winners[:cap(a.Winners)], a.Losers[:cap(a.Losers)]} {
		for i := range list {
			list[i] = -1
		}
		list = append(list, -2)
	}
	if !sameReport(b, exampleReport(1)) || a.Winners[0] != -1 || a.Losers[0] != -1 {
		t.Errorf("the lists are shared: %v, %v", a, b)
	}
	a.Winners = append(a.Winners, 5)
	if a.Losers[0] != -1 {
		t.Errorf("Winners and Losers share memory: %v", a)
	}
	runs(t, d, 2, api.Aries, exampleReport(2), master.State{Turn: 2, Base: 318})
}

// stages runs a restart again and again, each time with one act more, and hands out what is read there then.
func stages(w *world, frames, manager int, yield func(m api.Image)) {
	w.t.Helper()
	for stop := 1; ; stop++ {
		d := w.load()
		d.Stop(stop)
		_, e := run(w.t, d, frames, manager)
		yield(d.Image())
		if e == api.OK {
			return
		}
	}
}

func TestStepsInTheirOrder(t *testing.T) { // P25.2, steps 4 to 6: the pair, then the log's cut, then pages; the master behind all pages, the empty log behind the master
	for _, manager := range []int{api.Aries, api.Choose} {
		w := named(t, small(), 0)
		won := w.begin(1)
		w.update(won, 0, 16, 4, 1)
		w.commit(won)
		w.end(won)
		a := len(w.m.Log)
		w.m.Log = append(w.m.Log, 1, 2, 3)
		w.m.Pair[20] = 1
		at := 0
		stages(w, 2, manager, func(m api.Image) {
			isDone := []bool{m.Pair[20] == 0, len(m.Log) <= a, m.Pair[0] == 35, m.Pages[0][0] == 35, m.Masters[0][0] == 2, len(m.Log) == 0}
			for at < len(isDone) && isDone[at] {
				at++
			}
			for k, is := range isDone {
				if is != (k < at) {
					t.Errorf("by %d: %d are done, and yet: %v", manager, at, isDone)
				}
			}
		})
		if at != 6 {
			t.Errorf("by %d: only %d are done", manager, at)
		}
	}
}

func TestManyFramesNeedFewActs(t *testing.T) { // P25.2, step 5: the pool has so many frames, neither more nor less
	s := api.Shape{Pages: 8, Slots: 1, Log: 4096}
	w := named(t, s, 0)
	won := w.begin(1)
	for range 3 {
		for number := range 8 {
			w.update(won, number, 16, 1, 1)
		}
	}
	w.commit(won)
	acts := 1 << 20
	for frames := 2; frames <= 16; frames++ {
		d := w.load()
		_, e := run(t, d, frames, api.Aries)
		ok(t, "Run", e)
		if frames <= 8 && d.Acts() >= acts || frames > 8 && d.Acts() != acts {
			t.Errorf("%d frames: %d acts, with one less %d", frames, d.Acts(), acts)
		}
		acts = d.Acts()
	}
}
