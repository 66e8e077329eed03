package pool_test

import (
	"bytes"
	"math"
	"math/big"
	"slices"
	"testing"

	"tidemark/api"
	"tidemark/disk"
	"tidemark/pool"
)

func TestExamples(t *testing.T) { // P14.1 to P14.6, P14.8: the chapter's examples
	d := blank(t, small)
	w := on(t, d, 2, 1)
	w.l.Append(api.Record{Kind: api.KCommit, Birth: 1, Prev: 1})
	zeros := make([]byte, 40)
	w.noPin(4, 0, api.ErrPlace, 0)
	w.noPin(-1, 0, api.ErrPlace, 0)
	w.pin(0, 0, zeros, 1)
	w.pin(0, 0, zeros, 0)
	w.held(0)

	w.change(1, zeros, 1, api.ErrPlace)
	w.change(0, zeros[:39], 1, api.ErrBytes)
	w.change(0, zeros, 0, api.ErrLsn)
	w.change(0, zeros, 68, api.ErrLsn)
	w.change(0, zeros, 1, api.OK)
	w.look(0, sheet(0, 1, 1, 0))
	w.dirty(api.Rec{Page: 0, Lsn: 1})
	w.change(0, zeros, 35, api.OK)
	w.dirty(api.Rec{Page: 0, Lsn: 1})
	w.change(0, zeros, 35, api.ErrLsn)

	w.pin(1, 0, zeros, 1)
	w.noPin(2, 0, api.ErrPinned, 0)
	w.unpin(1)
	w.pin(2, 7, zeros, 1)
	w.held(0, 2)

	w.unpin(0, 0, 2)
	w.pin(3, -2, zeros, 7)
	w.held(2, 3)
	w.unpin(0, 9)
	w.held(2, 3)

	w.pin(0, 1, sheet(0, 35, 1, 0), 1)
	w.held(0, 3)
	w.clean(0, api.OK, 0)
	d.Stop(1)
	w.unpin(0) // else both pages are pinned, and no act is tried
	w.noPin(2, 0, api.ErrDead, 0)
}

func TestNew(t *testing.T) { // P14.1
	d := blank(t, api.Shape{Pages: 16, Slots: 1, Log: 1024})
	w := on(t, d, 2, 0)
	d.Stop(1) // no act: so nobody finds out
	for _, n := range []int{math.MinInt, -2, -1, 0, 1, 17, 18, 1 << 32, 1<<32 + 2, math.MaxInt} {
		w.acts("New", 0, func() {
			if p, e := pool.New(d, w.l, n); p != nil || e != api.ErrFrames {
				t.Errorf("New(.., %d): %v, %d, want nil, ErrFrames", n, p, e)
			}
		})
	}
	for n := 2; n <= 16; n++ {
		w.acts("New", 0, func() { w.p, _ = pool.New(d, w.l, n) })
		w.held()
		w.dirty()
	}
	if d.Dead() {
		t.Errorf("New has done an act")
	}
}

func TestSoManyFrames(t *testing.T) { // P14.1, P14.2
	for n := 2; n <= 16; n++ {
		s := api.Shape{Pages: 16, Slots: 2, Log: 1024}
		w := on(t, filled(t, s), n, 0)
		var want []int
		for i := range n {
			w.pin(15-i, 0, sheet(15-i, 0, 2, byte(16-i)), 1)
			want = append([]int{15 - i}, want...)
			w.held(want...)
		}
		for i := range 16 - n {
			w.noPin(i, 0, api.ErrPinned, 0)
		}
		w.held(want...)
	}
}

func TestPinOfEveryPage(t *testing.T) { // P14.2
	for _, pages := range []int{1, 2, 3, 16} {
		for slots := 1; slots <= 8; slots++ {
			s := api.Shape{Pages: pages, Slots: slots, Log: 1024}
			w := on(t, filled(t, s), 16, 0)
			for _, n := range []int{math.MinInt, -1 << 32, -16, -1, pages, pages + 1, 16, 17, 1 << 32, math.MaxInt} {
				w.noPin(n, 0, api.ErrPlace, 0)
				w.noLook(n)
			}
			w.held()
			for n := range pages {
				want := sheet(n, 0, slots, byte(n+1))
				w.noLook(n)
				w.pin(n, math.MinInt, want, 1)
				w.pin(n, math.MaxInt, want, 0)
				w.look(n, want)
			}
			w.dirty()
		}
	}
}

func TestPagesThatAreRight(t *testing.T) { // P14.2
	for _, b := range [][]byte{make([]byte, 40), sheet(1, 0, 1, 0), sheet(1, 0, 1, 9), sheet(1, 1, 1, 0), sheet(1, 5000, 1, 7), sheet(1, mostLsn, 1, 0xff)} {
		w := on(t, holding(t, small, atOne(b)...), 2, 2)
		w.pin(1, 0, b, 1)
		w.look(1, b)
		w.dirty()
		w.clean(1, api.OK, 0) // it is clean, whatever its LSN is
	}
}

// atOne puts the bytes at the place of page 1; page 0 is blank.
func atOne(b []byte) [][]byte { return [][]byte{make([]byte, len(b)), b} }

// wrongPages are no right page of the number 1 with one slot.
func wrongPages() [][]byte {
	all := [][]byte{
		sheet(0, 5, 1, 3), sheet(2, 5, 1, 3), sheet(0, 0, 1, 0), sheet(257, 5, 1, 3),
		layPage(1, 5, 6, make([]byte, 16)), layPage(1, 0, 6, make([]byte, 16)), layPage(1, mostLsn+1, mostLsn+1, make([]byte, 16)),
		bytes.Repeat([]byte{1}, 40),
	}
	for i := range 40 {
		b := sheet(1, 5, 1, 3)
		b[i] ^= 1
		all = append(all, b)
		z := make([]byte, 40)
		z[i] = 1
		all = append(all, z)
	}
	return all
}

func TestPagesThatAreNotRight(t *testing.T) { // P14.2
	for _, b := range wrongPages() {
		w := on(t, holding(t, small, atOne(b)...), 2, 2)
		w.noPin(1, 0, api.ErrPage, 1) // with all frames free
		w.held()
		w.pin(0, 0, make([]byte, 40), 1)
		w.change(0, draft(1, 8), 1, api.OK)
		w.pin(2, 0, make([]byte, 40), 1)
		w.noPin(1, 0, api.ErrPinned, 0) // ahead of the read
		w.unpin(0)
		was := w.d.Image()
		w.noPin(1, 0, api.ErrPage, 1) // page 0 does not give up its frame for that
		wantImage(t, "refused", w.d.Image(), was)
		w.held(0, 2)
		w.dirty(api.Rec{Page: 0, Lsn: 1})
		w.look(0, sheet(0, 1, 1, 8))
		w.change(0, draft(1, 9), 35, api.ErrPlace) // it is not pinned still
		w.noLook(1)
		w.pin(0, 0, sheet(0, 1, 1, 8), 0)
		w.noPin(3, 0, api.ErrPinned, 0)
	}
}

func TestAHeldPageIsNotReadAgain(t *testing.T) { // P14.2
	w := on(t, filled(t, small), 2, 2)
	w.pin(1, 0, sheet(1, 0, 1, 2), 1)
	w.pin(3, 0, sheet(3, 0, 1, 4), 1)
	w.pin(1, 5, sheet(1, 0, 1, 2), 0) // all frames are taken, and all pages pinned: it needs none
	w.change(1, draft(1, 0x55), 1, api.OK)
	w.pin(1, 5, sheet(1, 1, 1, 0x55), 0)
	w.unpin(1, 1, 1)
	w.pin(2, 5, sheet(2, 0, 1, 3), 7) // pinned three times, and let go three times: page 1 may go
	w.held(2, 3)
}

func TestPickIsByItsRest(t *testing.T) { // P14.2
	picks := []int{math.MinInt, math.MinInt + 1, math.MinInt + 2, -1 << 32, -48, -17, -16, -15, -3, -2, -1, 0, 1, 2, 3, 7, 14, 15, 16, 17, 29, 1 << 32, math.MaxInt - 1, math.MaxInt}
	s := api.Shape{Pages: 16, Slots: 1, Log: 1024}
	for _, idle := range [][]int{{0}, {14}, {0, 1}, {13, 14}, {2, 9}, {1, 3, 4}, {0, 5, 9, 14}, {1, 2, 3, 5, 7, 11, 13}, {0, 1, 2, 3, 4, 5, 6, 7, 8, 9, 10, 11, 12, 13, 14}} {
		for _, pick := range picks {
			w := on(t, filled(t, s), 15, 0)
			for i := range 15 {
				w.p.Pin((i*7+3)%15, 0) // neither rising nor falling
			}
			for _, n := range slices.Backward(idle) {
				w.p.Unpin(n)
			}
			at := new(big.Int).Mod(big.NewInt(int64(pick)), big.NewInt(int64(len(idle)))).Int64()
			gone := idle[at]
			w.pin(15, pick, sheet(15, 0, 1, 16), 1)
			var want []int
			for n := range 16 {
				if n != gone {
					want = append(want, n)
				}
			}
			w.held(want...)
			w.noLook(gone)
		}
	}
}

func TestPickPlaysNoPartWhereAFrameIsFree(t *testing.T) { // P14.2
	w := on(t, filled(t, small), 3, 2)
	w.pin(3, 1, sheet(3, 0, 1, 4), 1)
	w.change(3, draft(1, 1), 1, api.OK)
	w.unpin(3)
	w.pin(1, 0, sheet(1, 0, 1, 2), 1)
	w.unpin(1)
	w.pin(0, 7, sheet(0, 0, 1, 1), 1)
	w.held(0, 1, 3)
	w.dirty(api.Rec{Page: 3, Lsn: 1})
}

func TestUnpin(t *testing.T) { // P14.3
	w := on(t, filled(t, small), 2, 2)
	for _, n := range []int{math.MinInt, -1, 0, 3, 4, 16, math.MaxInt} {
		w.unpin(n) // none is held
	}
	w.pin(0, 0, sheet(0, 0, 1, 1), 1)
	w.unpin(0, 0, 0, 0) // three times too often: it counts for nothing
	w.pin(0, 0, sheet(0, 0, 1, 1), 0)
	w.change(0, draft(1, 9), 1, api.OK) // pinned
	w.unpin(1, 2, 3, -1, 4, 16, 256, math.MinInt, math.MaxInt)
	w.change(0, draft(1, 9), 2, api.OK) // pinned still
	for range 2 {
		w.pin(0, 0, sheet(0, 2, 1, 9), 0)
	}
	w.unpin(0, 0)
	w.change(0, draft(1, 8), 3, api.OK) // once still
	w.unpin(0)
	w.change(0, draft(1, 7), 4, api.ErrPlace)
	w.held(0) // a page that is not pinned is held till its frame is needed
	w.look(0, sheet(0, 3, 1, 8))
	w.dirty(api.Rec{Page: 0, Lsn: 1})
}

func TestAPinnedPageStaysHeld(t *testing.T) { // P14.2, P14.9
	s := api.Shape{Pages: 16, Slots: 1, Log: 1024}
	w := on(t, filled(t, s), 2, 20)
	for range 3 {
		w.p.Pin(6, 0)
	}
	for n := range 16 {
		if n != 6 && n != 14 {
			w.pin(n, n*n, sheet(n, 0, 1, byte(n+1)), 1)
			w.held(min(n, 6), max(n, 6))
			w.noPin((n+8)%16, 0, api.ErrPinned, 0)
			w.unpin(n)
		}
		if n == 3 || n == 9 {
			w.unpin(6) // pinned once less, and once more still
		}
	}
	w.look(6, sheet(6, 0, 1, 7))
}

func TestChangeErrorsInTheirOrder(t *testing.T) { // P14.4
	w := on(t, filled(t, small), 2, 2)
	right := draft(1, 9)
	w.pin(1, 0, sheet(1, 0, 1, 2), 1)
	w.unpin(1) // held, and not pinned
	w.pin(2, 0, sheet(2, 0, 1, 3), 1)
	for _, n := range []int{math.MinInt, -1, 0, 1, 3, 4, 16, 1<<32 + 2, math.MaxInt} {
		w.change(n, right, 1, api.ErrPlace)
		w.change(n, right[:39], 1, api.ErrPlace)
		w.change(n, right, 0, api.ErrPlace)
		w.change(n, nil, -1, api.ErrPlace)
	}
	for _, size := range []int{0, 1, 16, 24, 39, 41, 56, 72, 152, 168} {
		w.change(2, make([]byte, size), 1, api.ErrBytes)
		w.change(2, make([]byte, size), 0, api.ErrBytes)
		w.change(2, make([]byte, size), 69, api.ErrBytes)
		w.change(2, make([]byte, 200)[:size], math.MinInt, api.ErrBytes)
	}
	w.change(2, nil, 1, api.ErrBytes)
	for _, lsn := range []int{math.MinInt, -1, 0, 69, 70, 1000, mostLsn, mostLsn + 1, math.MaxInt} {
		w.change(2, right, lsn, api.ErrLsn)
	}
	w.look(1, sheet(1, 0, 1, 2))
	w.look(2, sheet(2, 0, 1, 3))
	w.dirty()
	w.held(1, 2)
}

func TestChangeByItsLsn(t *testing.T) { // P14.4
	for _, at := range []int{0, 1, 2, 34, 35, 66, 67, 68, 69, 5000, mostLsn} {
		b := sheet(1, at, 1, 3)
		for lsn := -1; lsn <= 71; lsn++ {
			w := on(t, holding(t, small, atOne(b)...), 2, 2) // the log's end is 69
			w.pin(1, 0, b, 1)
			if lsn > at && lsn < 69 { // a record need not begin there
				w.change(1, draft(1, 9), lsn, api.OK)
				w.look(1, sheet(1, lsn, 1, 9))
				w.dirty(api.Rec{Page: 1, Lsn: lsn})
			} else {
				w.change(1, draft(1, 9), lsn, api.ErrLsn)
				w.look(1, b)
				w.dirty()
			}
		}
	}
}

func TestChangeGoesByTheLogAsItIs(t *testing.T) { // P14.4
	w := on(t, filled(t, small), 2, 0)
	w.pin(1, 0, sheet(1, 0, 1, 2), 1)
	w.change(1, draft(1, 9), 1, api.ErrLsn) // no record yet
	w.append()
	w.change(1, draft(1, 9), 1, api.OK)
	w.change(1, draft(1, 9), 35, api.ErrLsn)
	w.append()
	w.change(1, draft(1, 8), 35, api.OK)
	w.l.Flush(99) // whether a record is on the disk plays no part
	w.change(1, draft(1, 7), 36, api.OK)
	w.change(1, draft(1, 7), 69, api.ErrLsn)
	w.l.Renew(5000)
	w.change(1, draft(1, 7), 5001, api.ErrLsn)
	w.change(1, draft(1, 6), 5000, api.OK)
	w.look(1, sheet(1, 5000, 1, 6))
	w.dirty(api.Rec{Page: 1, Lsn: 1})
}

func TestChangeStampsTheBytes(t *testing.T) { // P14.4
	for slots := 1; slots <= 8; slots++ {
		s := api.Shape{Pages: 16, Slots: slots, Log: 1024}
		w := on(t, filled(t, s), 16, 30)
		for n := range 16 {
			w.p.Pin(n, 0)
			for i, b := range [][]byte{draft(slots, 0xff), make([]byte, 24+16*slots), sheet(n, 900, slots, 4), sheet(15-n, mostLsn, slots, 5)} {
				lsn := 258 + 34*i
				w.change(n, b, lsn, api.OK)
				w.look(n, sheet(n, lsn, slots, b[16]))
				w.pin(n, 0, sheet(n, lsn, slots, b[16]), 0)
			}
		}
		for n := range slots {
			w.change(n, draft(slots%8+1, 1), 1000, api.ErrBytes)
		}
	}
}

func TestRecStaysTillThePageIsClean(t *testing.T) { // P14.4, P14.5, P14.6
	w := on(t, filled(t, small), 2, 6)
	w.pin(0, 0, sheet(0, 0, 1, 1), 1)
	w.pin(3, 0, sheet(3, 0, 1, 4), 1)
	w.change(3, draft(1, 4), 5, api.OK) // the same slots' bytes: dirty all the same
	w.change(0, draft(1, 1), 7, api.OK)
	w.change(3, draft(1, 1), 100, api.OK)
	w.dirty(api.Rec{Page: 0, Lsn: 7}, api.Rec{Page: 3, Lsn: 5})
	w.clean(3, api.OK, 6)
	w.dirty(api.Rec{Page: 0, Lsn: 7})
	w.change(3, draft(1, 1), 100, api.ErrLsn) // its LSN stays
	w.change(3, draft(1, 2), 101, api.OK)
	w.dirty(api.Rec{Page: 0, Lsn: 7}, api.Rec{Page: 3, Lsn: 101})
	w.cleanAll(api.OK, 8)
	w.dirty()
	w.change(0, draft(1, 1), 150, api.OK)
	w.dirty(api.Rec{Page: 0, Lsn: 150})
	w.unpin(0)
	w.pin(1, 0, sheet(1, 0, 1, 2), 5) // page 0 goes out
	w.held(1, 3)
	w.unpin(3)
	w.pin(0, 0, sheet(0, 150, 1, 1), 1) // page 3, which is clean, goes out; page 0 comes in: clean
	w.held(0, 1)
	w.dirty()
	w.change(0, draft(1, 5), 151, api.OK)
	w.dirty(api.Rec{Page: 0, Lsn: 151})
}

func TestClean(t *testing.T) { // P14.5
	w := on(t, filled(t, small), 2, 2)
	for _, n := range []int{math.MinInt, -1, 4, 16, 1 << 32, math.MaxInt} {
		w.clean(n, api.ErrPlace, 0)
	}
	was := w.d.Image()
	for n := range 4 {
		w.clean(n, api.OK, 0) // not held
	}
	w.held()
	w.pin(1, 0, sheet(1, 0, 1, 2), 1)
	w.pin(2, 0, sheet(2, 0, 1, 3), 1)
	w.clean(1, api.OK, 0) // clean
	w.cleanAll(api.OK, 0)
	w.change(1, draft(1, 9), 1, api.OK)
	w.change(2, draft(1, 8), 40, api.OK)
	w.clean(0, api.OK, 0)
	w.clean(3, api.OK, 0)
	wantImage(t, "nothing is written so far", w.d.Image(), was)
	w.clean(1, api.OK, 6) // pinned, and the log is in memory
	w.wantPage("page 1", 1, sheet(1, 1, 1, 9))
	w.wantPage("page 2", 2, sheet(2, 0, 1, 3))
	wantBytes(t, "the pair", w.d.Lasts().Pair, pairOf(1, 1, sheet(1, 1, 1, 9)))
	w.dirty(api.Rec{Page: 2, Lsn: 40})
	w.unpin(2)
	w.clean(2, api.OK, 4) // not pinned, and the log is flushed
	w.wantPage("page 2", 2, sheet(2, 40, 1, 8))
	w.clean(2, api.OK, 0)
	w.clean(1, api.OK, 0)
	w.dirty()
	w.held(1, 2)
	w.change(1, draft(1, 7), 2, api.OK) // pinned still
	w.change(2, draft(1, 7), 41, api.ErrPlace)
	w.look(1, sheet(1, 2, 1, 7))
}

func TestCleanFlushesTheLogJustIfItMust(t *testing.T) { // P14.5, P14.9
	for _, lsn := range []int{34, 35, 36, 69, 70, 102} {
		w := on(t, filled(t, small), 2, 1)
		w.l.Flush(99)
		w.append()
		w.append()
		w.pin(1, 0, sheet(1, 0, 1, 2), 1)
		w.change(1, draft(1, 9), lsn, api.OK)
		if lsn < 35 {
			w.clean(1, api.OK, 4)
			if w.d.LogLen() != 34 {
				t.Errorf("LSN %d: the log was flushed", lsn)
			}
		} else {
			w.clean(1, api.OK, 6)
			if w.d.LogLen() != 102 || len(w.d.Lasts().Log) != 102 {
				t.Errorf("LSN %d: the log was not flushed", lsn)
			}
		}
		w.wantPage("page 1", 1, sheet(1, lsn, 1, 9))
	}
}

// soiled gives a pool of sixteen pages, all of which are dirty, pinned and not, with LSNs that fall.
func soiled(t *testing.T) *world {
	t.Helper()
	s := api.Shape{Pages: 16, Slots: 1, Log: 1024}
	w := on(t, filled(t, s), 16, 3)
	for i := range 16 {
		n := (i*5 + 2) % 16
		w.p.Pin(n, 0)
		w.change(n, draft(1, byte(0x40+n)), 90-n, api.OK)
		if n%3 == 0 {
			w.unpin(n)
		}
	}
	return w
}

func TestCleanAllIsInOrder(t *testing.T) { // P14.5, P14.8
	for done := range 17 {
		w := soiled(t)
		acts := 2 + 4*done
		w.d.Stop(acts + 1)
		if done < 16 {
			w.cleanAll(api.ErrDead, acts)
		} else {
			w.cleanAll(api.OK, acts)
			w.dirty()
		}
		for n := range 16 {
			if n < done {
				w.wantPage("written", n, sheet(n, 90-n, 1, byte(0x40+n)))
			} else {
				w.wantPage("not yet written", n, sheet(n, 0, 1, byte(n+1)))
			}
		}
	}
}

func TestCleanAllLeavesWhatIsHeld(t *testing.T) { // P14.5, P14.9
	w := soiled(t)
	w.clean(7, api.OK, 6)
	w.cleanAll(api.OK, 15*4)
	w.held(0, 1, 2, 3, 4, 5, 6, 7, 8, 9, 10, 11, 12, 13, 14, 15)
	for n := range 16 {
		b := sheet(n, 90-n, 1, byte(0x40+n))
		w.look(n, b)
		w.wantPage("a page", n, b)
		if n%3 == 0 {
			w.change(n, draft(1, 1), 95, api.ErrPlace)
		} else {
			w.change(n, draft(1, 1), 95, api.OK)
		}
	}
	w.cleanAll(api.OK, 4*10)
	w.cleanAll(api.OK, 0)
}

func TestToldInOrder(t *testing.T) { // P14.6
	for range 20 { // the order of a map's items is another each time
		w := soiled(t)
		w.l.Flush(99)
		var held []int
		var dirty []api.Rec
		for n := range 16 {
			held = append(held, n)
			if n%4 == 1 {
				w.clean(n, api.OK, 4)
				continue
			}
			dirty = append(dirty, api.Rec{Page: n, Lsn: 90 - n})
		}
		w.held(held...)
		w.dirty(dirty...)
	}
}

func TestLook(t *testing.T) { // P14.6
	w := on(t, filled(t, small), 2, 2)
	for _, n := range []int{math.MinInt, -1, 0, 1, 2, 3, 4, 16, math.MaxInt} {
		w.noLook(n)
	}
	w.pin(1, 0, sheet(1, 0, 1, 2), 1)
	w.look(1, sheet(1, 0, 1, 2))
	w.noLook(0)
	w.unpin(1)
	w.look(1, sheet(1, 0, 1, 2))
	w.change(1, draft(1, 3), 1, api.ErrPlace) // to look is not to pin
	w.pin(0, 0, sheet(0, 0, 1, 1), 1)
	w.pin(2, 0, sheet(2, 0, 1, 3), 1)
	w.noLook(1)
	w.held(0, 2)
}

func TestMemory(t *testing.T) { // P14.7
	w := on(t, filled(t, small), 2, 2)
	first, _ := w.p.Pin(1, 0)
	again, _ := w.p.Pin(1, 0)
	seen, _ := w.p.Look(1)
	for _, b := range [][]byte{first, again, seen} {
		wantBytes(t, "page 1", b, sheet(1, 0, 1, 2))
		scribble(b)
		w.look(1, sheet(1, 0, 1, 2))
		w.pin(1, 0, sheet(1, 0, 1, 2), 0)
		w.wantPage("page 1", 1, sheet(1, 0, 1, 2))
	}
	given := spare(draft(1, 9))
	w.change(1, given, 1, api.OK)
	untouched(t, "Change", given, draft(1, 9))
	scribble(given)
	w.look(1, sheet(1, 1, 1, 9))
	w.pin(3, 0, sheet(3, 0, 1, 4), 1)
	w.change(3, draft(1, 9), 5, api.OK)
	for range 2 {
		held, dirty := w.p.Held(), w.p.Dirty()
		for i := range held[:cap(held)] {
			held[:cap(held)][i] = -9
		}
		for i := range dirty[:cap(dirty)] {
			dirty[:cap(dirty)][i] = api.Rec{Page: -9, Lsn: -9}
		}
		w.held(1, 3)
		w.dirty(api.Rec{Page: 1, Lsn: 1}, api.Rec{Page: 3, Lsn: 5})
	}
	for _, size := range []int{0, 39, 41} {
		given := spare(make([]byte, size))
		w.change(1, given, 2, api.ErrBytes)
		untouched(t, "refused", given, make([]byte, size))
	}
	given = spare(draft(1, 9))
	w.change(1, given, 1, api.ErrLsn)
	w.change(2, given, 2, api.ErrPlace)
	untouched(t, "refused", given, draft(1, 9))

	w.unpin(1, 1, 1, 1, 1)
	out, _ := w.p.Look(1)
	w.pin(2, 0, sheet(2, 0, 1, 3), 7)
	scribble(out)
	w.wantPage("page 1, which went out", 1, sheet(1, 1, 1, 9))
}

func TestTwoPoolsHaveNothingInCommon(t *testing.T) { // P14.7
	a, b := on(t, filled(t, small), 2, 2), on(t, filled(t, small), 2, 2)
	a.pin(1, 0, sheet(1, 0, 1, 2), 1)
	a.change(1, draft(1, 9), 1, api.OK)
	b.held()
	b.dirty()
	b.noLook(1)
	b.pin(1, 0, sheet(1, 0, 1, 2), 1)
}

// refusing looks that a pool that has met ErrDead answers it to all, ahead of all other errors.
func (w *world) refusing() {
	w.t.Helper()
	for _, n := range []int{math.MinInt, -1, 0, 1, 2, 3, 4, 16, math.MaxInt} {
		w.noPin(n, 0, api.ErrDead, 0)
		w.clean(n, api.ErrDead, 0)
		w.change(n, draft(1, 1), 50, api.ErrDead)
		w.change(n, nil, 0, api.ErrDead)
		w.change(n, draft(1, 1), -1, api.ErrDead)
	}
	w.cleanAll(api.ErrDead, 0)
}

func TestADeadDiskIsMetByAnActAlone(t *testing.T) { // P14.8
	w := on(t, filled(t, small), 2, 2)
	w.pin(1, 0, sheet(1, 0, 1, 2), 1)
	w.d.Stop(1)
	w.d.Sync()
	if !w.d.Dead() {
		t.Fatal("the disk is not dead")
	}
	q, e := pool.New(w.d, w.l, 2)
	if q == nil || e != api.OK {
		t.Errorf("New: %d", e)
	}
	w.noPin(4, 0, api.ErrPlace, 0)
	w.pin(1, 0, sheet(1, 0, 1, 2), 0)
	w.change(1, draft(1, 9), 1, api.OK)
	w.change(2, draft(1, 9), 1, api.ErrPlace)
	w.change(1, nil, 1, api.ErrBytes)
	w.change(1, draft(1, 9), 1, api.ErrLsn)
	w.clean(0, api.OK, 0)
	w.clean(-1, api.ErrPlace, 0)
	w.dirty(api.Rec{Page: 1, Lsn: 1})
	w.held(1)
	w.noPin(0, 0, api.ErrDead, 0)
	w.refusing()
}

func TestAPoolWithNothingInItMeetsErrDead(t *testing.T) { // P14.8
	w := on(t, filled(t, small), 2, 2)
	w.d.Stop(1)
	w.cleanAll(api.OK, 0) // no act
	w.noPin(0, 0, api.ErrDead, 0)
	w.refusing()
}

func TestAnActIsStopped(t *testing.T) { // P14.2, P14.5, P14.8, P14.9
	for _, c := range []struct {
		name string
		acts int
		read int // so many acts ahead of the first write
		call func(w *world) api.Errno
	}{
		{"Pin", 7, 1, func(w *world) api.Errno { _, e := w.p.Pin(2, 0); return e }},
		{"Clean", 6, 0, func(w *world) api.Errno { return w.p.Clean(1) }},
		{"CleanAll", 6, 0, func(w *world) api.Errno { return w.p.CleanAll() }},
	} {
		for stop := 1; stop <= c.acts; stop++ {
			w := on(t, filled(t, small), 2, 2)
			w.pin(3, 0, sheet(3, 0, 1, 4), 1)
			w.pin(1, 0, sheet(1, 0, 1, 2), 1)
			w.change(1, draft(1, 9), 35, api.OK)
			w.unpin(1)
			read, lasts := w.d.Image(), w.d.Lasts()
			b := sheet(1, 35, 1, 9)
			log := framesOf(t, w)
			w.d.Stop(stop)
			w.acts(c.name, stop-1, func() {
				if e := c.call(w); e != api.ErrDead {
					t.Errorf("%s, stopped at %d: %d, want ErrDead", c.name, stop, e)
				}
			})
			for i, act := range []func(){
				func() { read.Log = log }, func() { lasts.Log = log },
				func() { read.Pair = pairOf(1, 35, b) }, func() { lasts.Pair = read.Pair },
				func() { read.Pages[1] = b }, func() { lasts.Pages[1] = b },
			} {
				if i < stop-1-c.read {
					act()
				}
			}
			wantImage(t, c.name+", read", w.d.Image(), read)
			wantImage(t, c.name+", lasting", w.d.Lasts(), lasts)
			w.refusing()
		}
	}
}

// framesOf gives the log's bytes, as a copy of the whole would flush them.
func framesOf(t *testing.T, w *world) []byte {
	t.Helper()
	other := on(t, blank(t, small), 2, w.l.Bytes()/34)
	if e := other.l.Flush(w.l.End()); e != api.OK {
		t.Fatalf("Flush: %d", e)
	}
	return other.d.Image().Log
}

func TestALogThatIsDead(t *testing.T) { // P14.8
	for _, call := range []func(w *world) api.Errno{
		func(w *world) api.Errno { _, e := w.p.Pin(2, 0); return e },
		func(w *world) api.Errno { return w.p.Clean(1) },
		func(w *world) api.Errno { return w.p.CleanAll() },
	} {
		w := on(t, filled(t, small), 2, 2)
		w.pin(3, 0, sheet(3, 0, 1, 4), 1)
		w.pin(1, 0, sheet(1, 0, 1, 2), 1)
		w.change(1, draft(1, 9), 35, api.OK)
		w.unpin(1)
		w.d.Stop(1)
		if e := w.l.Flush(35); e != api.ErrDead {
			t.Fatalf("Flush: %d", e)
		}
		w.pin(3, 0, sheet(3, 0, 1, 4), 0) // the pool has not met it yet
		w.acts("a dead log", 0, func() {
			if e := call(w); e != api.ErrDead {
				t.Errorf("a dead log: %d, want ErrDead", e)
			}
		})
		w.refusing()
	}
}

func TestWhatIsBehindInTheLogIsCut(t *testing.T) { // P14.5: the acts are those of the log's Flush and of the pair's Write
	m := filled(t, small).Image()
	m.Log = []byte{7, 7, 7}
	d, e := disk.Load(small, m)
	if e != api.OK {
		t.Fatalf("disk.Load: %d", e)
	}
	w := on(t, d, 2, 1)
	w.pin(1, 0, sheet(1, 0, 1, 2), 1)
	w.change(1, draft(1, 9), 1, api.OK)
	w.clean(1, api.OK, 7) // Cut first
	wantBytes(t, "the log", d.Lasts().Log, framesOf(t, w))
	w.wantPage("page 1", 1, sheet(1, 1, 1, 9))
}
