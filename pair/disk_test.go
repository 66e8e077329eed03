package pair_test

import (
	"bytes"
	"math"
	"testing"

	"tidemark/api"
	"tidemark/disk"
)

func TestWriteAndRepairExamples(t *testing.T) { // P13.4, P13.5: example 4
	d := fresh(t, small)
	blank := d.Image()
	wantWrite(t, "no such page", d, 2, stamped(5), api.ErrPlace)
	wantWrite(t, "another number", d, 0, stamped(5), api.ErrPage)
	wantDisk(t, "refused", d, blank, blank, 0)
	wantRepair(t, "a new disk", d, -1, api.OK)
	wantDisk(t, "a new disk", d, blank, blank, 1)

	wantWrite(t, "page 1", d, 1, stamped(5), api.OK)
	want := copyOf(blank)
	want.Pages[1], want.Pair = stamped(5), pairOf(1, 5, stamped(5))
	wantDisk(t, "written", d, want, want, 5)
	wantRepair(t, "page 1", d, 1, api.OK)
	wantDisk(t, "repaired", d, want, want, 8)

	m := copyOf(want)
	m.Pair[30] ^= 1
	d, _ = disk.Load(small, m)
	wantRepair(t, "a byte another", d, -1, api.OK)
	m.Pair = make([]byte, 56)
	wantDisk(t, "a byte another", d, m, m, 3)
}

func TestWriteIsRefusedAheadOfAnyAct(t *testing.T) { // P13.4
	s := api.Shape{Pages: 3, Slots: 2, Log: 1024}
	right := func(number int) []byte { return sheet(number, 77, 2, 9) }
	turned := other(right(1), 20, 1)
	for _, dead := range []bool{false, true} {
		d := holding(t, s, make([]byte, 72))
		if dead {
			d.Stop(1)
			d.Sync()
		} else {
			d.Stop(1) // the first act would show that there was one
		}
		was := d.Image()
		for _, n := range []int{-1, 3, 4, 15, 16, 1 << 32, 1<<32 + 1, math.MaxInt, math.MinInt} {
			wantWrite(t, "no such page", d, n, right(n), api.ErrPlace)
			wantWrite(t, "no such page", d, n, right(1), api.ErrPlace)
			wantWrite(t, "no such page, and no page's bytes", d, n, nil, api.ErrPlace)
		}
		for _, b := range [][]byte{nil, {}, right(0), right(2), turned, right(1)[:55], append(right(1), 0), make([]byte, 56),
			sheet(1, 0, 2, 9), sheet(1, 77, 1, 9), sheet(1, 77, 3, 9), sheet(1, 77, 8, 9), sheet(1, 77, 9, 9), sheet(1, 77, 0, 9),
			layPage(1, 77, 78, make([]byte, 32)), layPage(1, mostLsn+1, mostLsn+1, make([]byte, 32))} {
			wantWrite(t, "no page that may be written", d, 1, b, api.ErrPage)
		}
		if d.Dead() != dead {
			t.Errorf("an act was done")
		}
		wantDisk(t, "refused", d, was, was, 0)
	}
}

func TestWriteOfEveryShape(t *testing.T) { // P13.4
	for _, pages := range []int{1, 2, 16} {
		for slots := 1; slots <= 8; slots++ {
			s := api.Shape{Pages: pages, Slots: slots, Log: 1024}
			for number := range pages {
				d := holding(t, s, make([]byte, 40+16*slots))
				b := sheet(number, mostLsn-number, slots, 0xab)
				want := copyOf(d.Image())
				want.Pages[number], want.Pair = b, pairOf(number, mostLsn-number, b)
				wantWrite(t, "a right page", d, number, b, api.OK)
				wantDisk(t, "written", d, want, want, 4)
			}
		}
	}
}

// looseDisk gives a disk with loose writes of a page, a master and the log, and what is read and what lasts there.
func looseDisk(t *testing.T, inPair []byte) (*disk.Disk, api.Image, api.Image) {
	t.Helper()
	d := holding(t, small, inPair)
	d.WriteMaster(1, bytes.Repeat([]byte{0x77}, 40))
	d.WritePage(0, bytes.Repeat([]byte{0x78}, 40))
	d.Append([]byte{0x79})
	return d.Copy(), d.Image(), d.Lasts()
}

func TestTheFourActsOfAWrite(t *testing.T) { // P13.4
	b := stamped(258)
	for stop := 1; stop <= 5; stop++ {
		d, read, lasts := looseDisk(t, make([]byte, 56))
		d.Stop(stop)
		want := api.ErrDead
		if stop == 5 {
			want = api.OK
		}
		wantWrite(t, "stopped", d, 1, b, want)
		if stop > 1 { // WritePair
			read.Pair = pairOf(1, 258, b)
		}
		if stop > 2 { // Sync
			lasts.Pair, lasts.Pages[0] = read.Pair, read.Pages[0]
		}
		if stop > 3 { // WritePage
			read.Pages[1] = b
		}
		if stop > 4 { // Sync
			lasts.Pages[1] = b
		}
		wantDisk(t, "stopped", d, read, lasts, stop-1)
		if stop < 5 {
			wantWrite(t, "again", d, 1, b, api.ErrDead)
			wantDisk(t, "again", d, read, lasts, stop-1)
		}
	}
}

func TestTheThreeActsOfARepair(t *testing.T) { // P13.5
	b := stamped(258)
	for _, c := range []struct {
		inPair []byte
		number int
	}{{pairOf(1, 258, b), 1}, {layPair(258, 1, 9, b), 1}, {pairOf(1, 259, b), -1}} {
		for stop := 1; stop <= 4; stop++ {
			d, read, lasts := looseDisk(t, c.inPair)
			d.Stop(stop)
			number, want := 0, api.ErrDead
			if stop == 4 {
				number, want = c.number, api.OK
			}
			wantRepair(t, "stopped", d, number, want)
			switch { // behind ReadPair
			case stop > 2 && c.number == 1: // WritePage
				read.Pages[1] = b
			case stop > 2: // WritePair
				read.Pair = make([]byte, 56)
			}
			if stop > 3 { // Sync
				lasts.Pages, lasts.Pair = read.Pages, read.Pair
			}
			wantDisk(t, "stopped", d, read, lasts, stop-1)
			if stop < 4 {
				wantRepair(t, "again", d, 0, api.ErrDead)
				wantDisk(t, "again", d, read, lasts, stop-1)
			}
		}
	}
}

func TestRepairOfZerosIsOneAct(t *testing.T) { // P13.5
	d, read, lasts := looseDisk(t, make([]byte, 56))
	wantRepair(t, "zeros", d, -1, api.OK)
	wantDisk(t, "zeros", d, read, lasts, 1)
	d.Stop(1)
	wantRepair(t, "zeros, stopped", d, 0, api.ErrDead)
	wantDisk(t, "zeros, stopped", d, read, lasts, 1)
}

func TestRepairReadsWhatIsLoose(t *testing.T) { // P13.5
	d := fresh(t, small)
	d.WritePair(pairOf(1, 5, stamped(5)))
	wantRepair(t, "a loose pair", d, 1, api.OK)
	wantBytes(t, "page 1", d.Lasts().Pages[1], stamped(5))
	wantBytes(t, "the pair", d.Lasts().Pair, pairOf(1, 5, stamped(5)))
	d.WritePair(make([]byte, 56))
	acts := d.Acts()
	wantRepair(t, "loose zeros", d, -1, api.OK)
	if d.Acts() != acts+1 {
		t.Errorf("loose zeros: %d acts, want 1", d.Acts()-acts)
	}
}

func TestRepairClearsWhatIsNotRight(t *testing.T) { // P13.5
	whole := pairOf(1, 258, sheet(1, 258, 1, 5))
	rows := [][]byte{bytes.Repeat([]byte{0xff}, 56), pairOf(2, 258, sheet(2, 258, 1, 5)), pairOf(16, 258, sheet(16, 258, 1, 5)),
		pairOf(1, 0, sheet(1, 0, 1, 5)), pairOf(1, 0, make([]byte, 40)), layPair(0, 0, 1, make([]byte, 40))}
	for i := range whole {
		one := make([]byte, 56)
		one[i] = 1
		rows = append(rows, one)
		if i < 12 || i >= 16 {
			rows = append(rows, other(whole, i, 0x80))
		}
	}
	for _, inPair := range rows {
		d := holding(t, small, inPair)
		want := copyOf(d.Image())
		want.Pair = make([]byte, 56)
		wantRepair(t, "not right", d, -1, api.OK)
		wantDisk(t, "not right", d, want, want, 3)
		wantRepair(t, "again", d, -1, api.OK)
		wantDisk(t, "again", d, want, want, 4)
	}
}

func TestRepairOfEveryShape(t *testing.T) { // P13.5
	for _, pages := range []int{1, 2, 16} {
		for slots := 1; slots <= 8; slots++ {
			s := api.Shape{Pages: pages, Slots: slots, Log: 1024}
			for number := range 16 {
				b := sheet(number, 9+number, slots, 0xab)
				d := holding(t, s, pairOf(number, 9+number, b))
				want := copyOf(d.Image())
				told := number
				if number < pages {
					want.Pages[number] = b
				} else { // a right pair, but not of this shape
					want.Pair, told = make([]byte, 40+16*slots), -1
				}
				for again := 1; again <= 2; again++ {
					wantRepair(t, "a pair", d, told, api.OK)
					acts := 3 * again
					if told == -1 {
						acts = 2 + again
					}
					wantDisk(t, "a pair", d, want, want, acts)
				}
			}
		}
	}
}

func TestRepairLooksAtNoPage(t *testing.T) { // P13.5
	// Whatever stands in its place, older or newer, the pair's page is laid there.
	for _, lsn := range []int{0, 4, 5, 6, mostLsn} {
		m := fresh(t, small).Image()
		m.Pages[1] = sheet(1, lsn, 1, 3)
		m.Pair = pairOf(1, 5, stamped(5))
		d, _ := disk.Load(small, m)
		wantRepair(t, "any page", d, 1, api.OK)
		m.Pages[1] = stamped(5)
		wantDisk(t, "any page", d, m, m, 3)
	}
}

func TestWriteLooksAtNothingOnTheDisk(t *testing.T) { // P13.4
	// What is in the pair and in the place plays no part, nor does an LSN that is lower than theirs.
	for _, inPair := range [][]byte{make([]byte, 56), bytes.Repeat([]byte{0xff}, 56), pairOf(0, 99, sheet(0, 99, 1, 1)), pairOf(1, 5, stamped(5))} {
		d := holding(t, small, inPair)
		want := copyOf(d.Image())
		want.Pages[1], want.Pair = stamped(5), pairOf(1, 5, stamped(5))
		for again := 1; again <= 2; again++ {
			wantWrite(t, "any pair", d, 1, stamped(5), api.OK)
			wantDisk(t, "any pair", d, want, want, 4*again)
		}
	}
}

func TestMemoryOfWrite(t *testing.T) { // P13.6
	d := fresh(t, small)
	b := spare(stamped(5))
	for stop := 1; stop <= 5; stop++ {
		x := d.Copy()
		x.Stop(stop)
		given := spare(stamped(9))
		want := api.ErrDead
		if stop == 5 {
			want = api.OK
		}
		wantWrite(t, "stopped", x, 1, given, want)
		untouched(t, "Write", given, stamped(9))
		scribble(given)
		for k, got := range map[int][]byte{2: x.Image().Pair, 4: x.Image().Pages[1]} {
			want := make([]byte, len(got))
			if stop >= k {
				copy(want[len(got)-40:], stamped(9))
				copy(want[:len(got)-40], pairOf(1, 9, nil))
			}
			wantBytes(t, "behind a scribble", got, want)
		}
	}
	wantWrite(t, "refused", d, 0, b, api.ErrPage)
	untouched(t, "refused", b, stamped(5))
}
