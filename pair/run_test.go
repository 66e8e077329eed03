package pair_test

import (
	"bytes"
	"math/rand"
	"testing"

	"tidemark/api"
	"tidemark/disk"
	"tidemark/page"
	"tidemark/pair"
)

func TestATornPageStandsInThePair(t *testing.T) { // P13.7: example 5
	d := fresh(t, small)
	wantWrite(t, "A(5)", d, 1, stamped(5), api.OK)
	for _, c := range []struct {
		stop, keep  int
		torn        bool // page 1, behind the crash
		number      int
		want, pairs []byte
	}{
		{4, 12, true, 1, stamped(9), pairOf(1, 9, stamped(9))},
		{2, 30, false, -1, stamped(5), make([]byte, 56)},
		{2, 0, false, 1, stamped(5), pairOf(1, 5, stamped(5))},
		{2, 1, false, 1, stamped(9), pairOf(1, 9, stamped(9))},
		{3, 0, false, 1, stamped(9), pairOf(1, 9, stamped(9))},
		{4, 0, false, 1, stamped(9), pairOf(1, 9, stamped(9))},
		{1, 0, false, 1, stamped(5), pairOf(1, 5, stamped(5))},
	} {
		x := d.Copy()
		x.Stop(c.stop)
		wantWrite(t, "A(9)", x, 1, stamped(9), api.ErrDead)
		x = x.Crash(api.Choice{Keep: []int{c.keep}})
		if _, e := page.Check(x.Image().Pages[1], 1, 1); (e != api.OK) != c.torn {
			t.Errorf("stopped at %d, kept %d: Check of page 1: %d", c.stop, c.keep, e)
		}
		wantRepair(t, "behind the crash", x, c.number, api.OK)
		wantBytes(t, "page 1", x.Lasts().Pages[1], c.want)
		wantBytes(t, "the pair", x.Lasts().Pair, c.pairs)
	}
}

// cutInPair has a Write cut at its first Sync, and so many bytes of the pair kept.
func cutInPair(t *testing.T, d *disk.Disk, number int, b []byte, kept int) *disk.Disk {
	t.Helper()
	d.Stop(2)
	wantWrite(t, "cut", d, number, b, api.ErrDead)
	return d.Crash(api.Choice{Keep: []int{kept + 1}})
}

func TestATearOverATear(t *testing.T) { // P13.5, P13.7: example 6
	top := uint64(1) << 56
	for _, repaired := range []bool{false, true} {
		d := fresh(t, api.Shape{Pages: 3, Slots: 1, Log: 1024})
		q := valued(2, 35, 2, 1)
		wantWrite(t, "Q", d, 2, q, api.OK)
		d = cutInPair(t, d, 1, valued(1, 361, 4, top^0x1db710641), 49)
		wantBytes(t, "the pair's end", d.Image().Pair[48:], []byte{0x69, 0, 0, 0, 0, 0, 0, 0})
		if repaired {
			wantRepair(t, "P", d, -1, api.OK)
			wantBytes(t, "the pair", d.Lasts().Pair, make([]byte, 56))
		}
		d = cutInPair(t, d, 0, valued(0, 105, 4, top), 40)
		if !repaired {
			// What the zeros are good for: without them nobody could tell.
			if n, _, e := pair.Parse(d.Image().Pair, 3, 1); n != 0 || e != api.OK {
				t.Errorf("two tears: Parse: %d, %d, want 0, OK", n, e)
			}
			continue
		}
		wantRepair(t, "R", d, -1, api.OK)
		m := d.Lasts()
		wantBytes(t, "page 0", m.Pages[0], make([]byte, 40))
		wantBytes(t, "page 1", m.Pages[1], make([]byte, 40))
		wantBytes(t, "page 2", m.Pages[2], q)
		wantBytes(t, "the pair", m.Pair, make([]byte, 56))
	}
}

// run is a disk that Write and Repair alone write, and what its pages must be.
type run struct {
	d     *disk.Disk
	s     api.Shape
	pages [][]byte
}

func begin(t *testing.T, s api.Shape) *run {
	d := fresh(t, s)
	return &run{d, s, d.Image().Pages}
}

func (r *run) copied() *run {
	return &run{r.d.Copy(), r.s, append([][]byte{}, r.pages...)}
}

// write has a Write that is not cut.
func (r *run) write(t *testing.T, number int, b []byte) {
	t.Helper()
	wantWrite(t, "a run", r.d, number, b, api.OK)
	r.pages[number] = b
}

// cut has a Write stopped at an act, and a crash.
func (r *run) cut(t *testing.T, number int, b []byte, stop int, c api.Choice) {
	t.Helper()
	r.d.Stop(stop)
	wantWrite(t, "a run, stopped", r.d, number, b, api.ErrDead)
	r.d = r.d.Crash(c)
}

// settle has a Repair, and looks at its pages; the page that a cut Write wrote is as it was or as it was written.
func (r *run) settle(t *testing.T, number int, b []byte) {
	t.Helper()
	if _, e := pair.Repair(r.d); e != api.OK {
		t.Fatalf("Repair: %d", e)
	}
	if bytes.Equal(r.d.Image().Pages[number], b) {
		r.pages[number] = b
	}
	r.wantPages(t)
}

func (r *run) wantPages(t *testing.T) {
	t.Helper()
	for i, lasts := range r.d.Lasts().Pages {
		if _, e := page.Check(lasts, i, r.s.Slots); e != api.OK {
			t.Fatalf("page %d is not right: % x", i, lasts)
		}
		if !bytes.Equal(lasts, r.pages[i]) {
			t.Fatalf("page %d: % x, want % x", i, lasts, r.pages[i])
		}
	}
}

// wantTwice: a second Repair answers as the first, and changes nothing.
func (r *run) wantTwice(t *testing.T) {
	t.Helper()
	x := r.copied()
	n, e := pair.Repair(x.d)
	was := x.d.Image()
	again, f := pair.Repair(x.d)
	if n != again || e != api.OK || f != api.OK {
		t.Fatalf("Repair: %d, %d, and again %d, %d", n, e, again, f)
	}
	wantImage(t, "twice", x.d.Image(), was)
	wantImage(t, "twice", x.d.Lasts(), was)
}

// wantCutRepairs: of a disk behind a crash, a Repair cut anywhere and done again leaves these pages.
func (r *run) wantCutRepairs(t *testing.T, pages [][]byte) {
	t.Helper()
	for stop := 1; stop <= 3; stop++ {
		x := r.d.Copy()
		x.Stop(stop)
		if n, e := pair.Repair(x); n != 0 && e != api.OK {
			t.Fatalf("Repair, stopped: %d, %d", n, e)
		}
		for keep := range 58 {
			y := &run{x.Crash(api.Choice{Keep: []int{keep}}), r.s, pages}
			if _, e := pair.Repair(y.d); e != api.OK {
				t.Fatalf("Repair: %d", e)
			}
			y.wantPages(t)
			if stop != 3 {
				break // nothing is loose
			}
		}
	}
}

// starts gives runs with unlike bytes in the pair: none, this page's, another's, zeros behind a tear, what lasts and isn't in place.
func starts(t *testing.T, lsn int) []*run {
	t.Helper()
	r := begin(t, small)
	out := []*run{r.copied()}
	r.write(t, 1, sheet(1, lsn, 1, 3))
	out = append(out, r.copied())
	r.write(t, 0, sheet(0, lsn+256, 1, 4))
	out = append(out, r.copied())
	x := r.copied()
	x.cut(t, 1, sheet(1, lsn+1<<20, 1, 5), 2, api.Choice{Keep: []int{33}})
	x.settle(t, 1, sheet(1, lsn+1<<20, 1, 5))
	out = append(out, x)
	x = r.copied()
	x.cut(t, 1, sheet(1, lsn+1<<20, 1, 5), 3, api.Choice{})
	x.settle(t, 1, sheet(1, lsn+1<<20, 1, 5))
	return append(out, x)
}

func TestEveryTear(t *testing.T) { // P13.5, P13.7
	// LSNs that share bytes, or are one another's where some are zeros: such tears look most like right ones.
	for _, c := range [][2]int{{5, 9}, {0x0100, 0x0101}, {0x0101, 0x0100 + 1<<24}, {0x010101, 0x020101}, {0x02 << 16, 0x01020304}} {
		for _, r := range starts(t, c[0]) {
			for number := range 2 {
				b := sheet(number, c[1], 1, 3)
				for stop := 1; stop <= 4; stop++ {
					for keep := range 58 {
						x := r.copied()
						x.cut(t, number, b, stop, api.Choice{Keep: []int{keep}})
						before := x.copied()
						x.settle(t, number, b)
						before.wantTwice(t)
						before.wantCutRepairs(t, x.pages)
						x.wantTwice(t)
						if stop == 1 || stop == 3 {
							break // nothing is loose
						}
					}
				}
			}
		}
	}
}

func TestAWriteThatAnsweredLasts(t *testing.T) { // P13.7
	for _, r := range starts(t, 5) {
		for number := range 2 {
			for _, keep := range []int{0, 1, 2, 20, 41, 57} {
				x := r.copied()
				x.write(t, number, sheet(number, 77, 1, 8))
				x.d = x.d.Crash(api.Choice{Keep: []int{keep}})
				x.wantPages(t)
				wantRepair(t, "behind a Write", x.d, number, api.OK)
				x.wantPages(t)
			}
		}
	}
}

func TestWhereAWriteIsCutTellsWhatItLeaves(t *testing.T) { // P13.7
	b := stamped(77)
	for _, r := range starts(t, 5) {
		for stop := 1; stop <= 4; stop++ {
			for _, keep := range []int{0, 1} {
				x := r.copied()
				x.cut(t, 1, b, stop, api.Choice{Keep: []int{keep}})
				if stop > 2 || stop == 2 && keep == 1 { // it lasts in the pair
					x.pages[1] = b
				}
				if _, e := pair.Repair(x.d); e != api.OK {
					t.Fatalf("Repair: %d", e)
				}
				x.wantPages(t)
			}
		}
	}
}

// anyChoice gives what a crash leaves; the loose writes here are few.
func anyChoice(rng *rand.Rand) api.Choice {
	c := api.Choice{Log: rng.Intn(9) - 4}
	for range rng.Intn(3) {
		c.Keep = append(c.Keep, rng.Intn(90)-3)
	}
	return c
}

// newLsn gives an LSN that was not there, of few unlike bytes, so that tears often share some.
func newLsn(rng *rand.Rand, had map[int]int) int {
	for {
		lsn := 0
		for range 1 + rng.Intn(4) {
			lsn = lsn<<8 | rng.Intn(4)
		}
		if had[lsn] == 0 && lsn > 0 {
			had[lsn] = 1
			return lsn
		}
	}
}

// repairTillOK has Repairs of which some are cut by crashes, till one answers OK.
func (r *run) repairTillOK(t *testing.T, rng *rand.Rand, number int, b []byte) {
	t.Helper()
	for range rng.Intn(4) {
		r.d.Stop(rng.Intn(5))
		n, e := pair.Repair(r.d)
		if e != api.OK && (e != api.ErrDead || n != 0) {
			t.Fatalf("Repair: %d, %d", n, e)
		}
		r.d = r.d.Crash(anyChoice(rng))
	}
	r.settle(t, number, b)
}

func TestRunsOfAnyWritesAndCrashes(t *testing.T) { // P13.7
	for seed := range 300 {
		rng := rand.New(rand.NewSource(int64(seed)))
		s := api.Shape{Pages: 1 + rng.Intn(4), Slots: 1 + rng.Intn(2), Log: 1024}
		r, had := begin(t, s), map[int]int{}
		for range 40 {
			number, lsn := rng.Intn(s.Pages), newLsn(rng, had)
			b := sheet(number, lsn, s.Slots, byte(rng.Intn(3)))
			if rng.Intn(3) == 0 {
				r.write(t, number, b)
				r.wantPages(t)
				continue
			}
			r.cut(t, number, b, 1+rng.Intn(4), anyChoice(rng))
			r.wantTwice(t)
			r.repairTillOK(t, rng, number, b)
			if rng.Intn(2) == 0 {
				wantImage(t, "settled", r.d.Image(), r.d.Lasts())
			}
		}
	}
}
