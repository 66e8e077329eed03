package pool_test

import (
	"bytes"
	"encoding/binary"
	"hash/crc32"
	"slices"
	"testing"

	"tidemark/api"
	"tidemark/disk"
	"tidemark/pool"
	"tidemark/wal"
)

// mostLsn is the greatest LSN that may be.
const mostLsn = 1 << 60

// small is the shape of the chapter's examples: a page has 40 bytes, the pair 56.
var small = api.Shape{Pages: 4, Slots: 1, Log: 1024}

// layPage lays a page out by hand, with the library's sum; first and last are the LSNs at its ends.
func layPage(number uint32, first, last uint64, slots []byte) []byte {
	b := binary.LittleEndian.AppendUint64(nil, first)
	b = binary.LittleEndian.AppendUint32(b, number)
	rest := binary.LittleEndian.AppendUint64(bytes.Clone(slots), last)
	sum := crc32.ChecksumIEEE(append(bytes.Clone(b), rest...))
	b = binary.LittleEndian.AppendUint32(b, sum)
	return append(b, rest...)
}

// sheet lays out a right page whose slots' bytes are all the same.
func sheet(number, lsn, slots int, fill byte) []byte {
	return layPage(uint32(number), uint64(lsn), uint64(lsn), bytes.Repeat([]byte{fill}, 16*slots))
}

// pairOf lays out the right pair of a right page.
func pairOf(number, lsn int, content []byte) []byte {
	b := binary.LittleEndian.AppendUint64(nil, uint64(lsn))
	b = binary.LittleEndian.AppendUint64(b, uint64(number))
	return append(b, content...)
}

// draft gives a page's bytes as a caller might hand them in: its slots' bytes are all the same, and its stamps are nonsense.
func draft(slots int, fill byte) []byte {
	b := bytes.Repeat([]byte{0xd7}, 24+16*slots)
	copy(b[16:], bytes.Repeat([]byte{fill}, 16*slots))
	return b
}

// spare gives the bytes with marks in the room behind them: whoever reads or writes there is found out.
func spare(b []byte) []byte {
	return append(bytes.Clone(b), bytes.Repeat([]byte{0xa5}, 64)...)[:len(b)]
}

func untouched(t *testing.T, what string, b, want []byte) {
	t.Helper()
	if !bytes.Equal(b, want) || !bytes.Equal(b[len(b):][:64], bytes.Repeat([]byte{0xa5}, 64)) {
		t.Errorf("%s: what was handed in was changed: % x", what, b[:cap(b)])
	}
}

// scribble writes over a list and its spare room.
func scribble(b []byte) {
	b = b[:cap(b)]
	for i := range b {
		b[i] = 0xee
	}
}

// world is a disk with a log and a pool.
type world struct {
	t *testing.T
	d *disk.Disk
	l *wal.Log
	p *pool.Pool
}

// on gives a pool of so many frames on a disk, with a log that has so many records in memory: 34 bytes each, so the LSNs 1, 35, 69 ..
func on(t *testing.T, d *disk.Disk, frames, records int) *world {
	t.Helper()
	l, e := wal.Open(d, 0)
	if e != api.OK {
		t.Fatalf("wal.Open: %d", e)
	}
	w := &world{t: t, d: d, l: l}
	for range records {
		w.append()
	}
	w.p, e = pool.New(d, l, frames)
	if w.p == nil || e != api.OK {
		t.Fatalf("New(.., %d): %d", frames, e)
	}
	return w
}

func (w *world) append() int {
	w.t.Helper()
	lsn, e := w.l.Append(api.Record{Kind: api.KBegin, Id: 3})
	if e != api.OK {
		w.t.Fatalf("wal.Append: %d", e)
	}
	return lsn
}

func blank(t *testing.T, s api.Shape) *disk.Disk {
	t.Helper()
	d, e := disk.New(s)
	if e != api.OK {
		t.Fatalf("disk.New: %d", e)
	}
	return d
}

// holding gives a disk with these pages, all of which last.
func holding(t *testing.T, s api.Shape, pages ...[]byte) *disk.Disk {
	t.Helper()
	m := blank(t, s).Image()
	copy(m.Pages, pages)
	d, e := disk.Load(s, m)
	if e != api.OK {
		t.Fatalf("disk.Load: %d", e)
	}
	return d
}

// filled gives a disk of right pages, each with other bytes and the LSN 0.
func filled(t *testing.T, s api.Shape) *disk.Disk {
	t.Helper()
	var pages [][]byte
	for i := range s.Pages {
		pages = append(pages, sheet(i, 0, s.Slots, byte(i+1)))
	}
	return holding(t, s, pages...)
}

// acts looks how many acts a call takes.
func (w *world) acts(what string, want int, call func()) {
	w.t.Helper()
	n := w.d.Acts()
	call()
	if w.d.Acts()-n != want {
		w.t.Errorf("%s: %d acts, want %d", what, w.d.Acts()-n, want)
	}
}

func (w *world) pin(number, pick int, want []byte, acts int) {
	w.t.Helper()
	w.acts("Pin", acts, func() {
		w.t.Helper()
		if b, e := w.p.Pin(number, pick); e != api.OK || !bytes.Equal(b, want) {
			w.t.Errorf("Pin(%d, %d): % x, %d, want % x, OK", number, pick, b, e, want)
		}
	})
}

func (w *world) noPin(number, pick int, want api.Errno, acts int) {
	w.t.Helper()
	w.acts("Pin", acts, func() {
		w.t.Helper()
		if b, e := w.p.Pin(number, pick); e != want || len(b) != 0 {
			w.t.Errorf("Pin(%d, %d): % x, %d, want none, %d", number, pick, b, e, want)
		}
	})
}

// change is never an act, whatever it answers.
func (w *world) change(number int, b []byte, lsn int, want api.Errno) {
	w.t.Helper()
	w.acts("Change", 0, func() {
		w.t.Helper()
		if e := w.p.Change(number, b, lsn); e != want {
			w.t.Errorf("Change(%d, %d bytes, %d): %d, want %d", number, len(b), lsn, e, want)
		}
	})
}

func (w *world) clean(number int, want api.Errno, acts int) {
	w.t.Helper()
	w.acts("Clean", acts, func() {
		w.t.Helper()
		if e := w.p.Clean(number); e != want {
			w.t.Errorf("Clean(%d): %d, want %d", number, e, want)
		}
	})
}

func (w *world) cleanAll(want api.Errno, acts int) {
	w.t.Helper()
	w.acts("CleanAll", acts, func() {
		w.t.Helper()
		if e := w.p.CleanAll(); e != want {
			w.t.Errorf("CleanAll: %d, want %d", e, want)
		}
	})
}

func (w *world) unpin(numbers ...int) {
	w.t.Helper()
	w.acts("Unpin", 0, func() {
		for _, n := range numbers {
			w.p.Unpin(n)
		}
	})
}

func (w *world) held(want ...int) {
	w.t.Helper()
	w.acts("Held", 0, func() {
		w.t.Helper()
		if got := w.p.Held(); !slices.Equal(got, want) {
			w.t.Errorf("Held: %v, want %v", got, want)
		}
	})
}

func (w *world) dirty(want ...api.Rec) {
	w.t.Helper()
	w.acts("Dirty", 0, func() {
		w.t.Helper()
		if got := w.p.Dirty(); !slices.Equal(got, want) {
			w.t.Errorf("Dirty: %v, want %v", got, want)
		}
	})
}

func (w *world) look(number int, want []byte) {
	w.t.Helper()
	w.acts("Look", 0, func() {
		w.t.Helper()
		if b, is := w.p.Look(number); !is || !bytes.Equal(b, want) {
			w.t.Errorf("Look(%d): % x, %v, want % x, true", number, b, is, want)
		}
	})
}

func (w *world) noLook(number int) {
	w.t.Helper()
	w.acts("Look", 0, func() {
		w.t.Helper()
		if b, is := w.p.Look(number); is || len(b) != 0 {
			w.t.Errorf("Look(%d): % x, %v, want none, false", number, b, is)
		}
	})
}

// wantPage looks at a page on the disk, where it must be lasting too.
func (w *world) wantPage(what string, number int, want []byte) {
	w.t.Helper()
	wantBytes(w.t, what+", read", w.d.Image().Pages[number], want)
	wantBytes(w.t, what+", lasting", w.d.Lasts().Pages[number], want)
}

func wantBytes(t *testing.T, what string, got, want []byte) {
	t.Helper()
	if !bytes.Equal(got, want) {
		t.Errorf("%s: % x, want % x", what, got, want)
	}
}

func wantImage(t *testing.T, what string, got, want api.Image) {
	t.Helper()
	for i := range want.Pages {
		wantBytes(t, what+": a page", got.Pages[i], want.Pages[i])
	}
	wantBytes(t, what+": the pair", got.Pair, want.Pair)
	wantBytes(t, what+": the log", got.Log, want.Log)
	for k := range want.Masters {
		wantBytes(t, what+": a master", got.Masters[k], want.Masters[k])
	}
}
