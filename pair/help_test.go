package pair_test

import (
	"bytes"
	"encoding/binary"
	"hash/crc32"
	"testing"

	"tidemark/api"
	"tidemark/disk"
	"tidemark/pair"
)

// mostLsn is the greatest LSN that may be.
const mostLsn = 1 << 60

// small is the shape of most disks here: a page has 40 bytes, the pair 56.
var small = api.Shape{Pages: 2, Slots: 1, Log: 1024}

// layPage lays a page out by hand, with the library's sum; first and last are the LSNs at its ends.
func layPage(number uint32, first, last uint64, slots []byte) []byte {
	b := binary.LittleEndian.AppendUint64(nil, first)
	b = binary.LittleEndian.AppendUint32(b, number)
	rest := binary.LittleEndian.AppendUint64(bytes.Clone(slots), last)
	sum := crc32.ChecksumIEEE(append(bytes.Clone(b), rest...))
	b = binary.LittleEndian.AppendUint32(b, sum)
	return append(b, rest...)
}

// sheet lays out a right page whose slots' bytes are all the same.
func sheet(number, lsn, slots int, fill byte) []byte {
	return layPage(uint32(number), uint64(lsn), uint64(lsn), bytes.Repeat([]byte{fill}, 16*slots))
}

// stamped is the chapter's A(l): page 1 with one slot, free.
func stamped(lsn int) []byte { return sheet(1, lsn, 1, 0) }

// valued lays out a page of one slot, which is used.
func valued(number, lsn, key int, value uint64) []byte {
	slot := binary.LittleEndian.AppendUint32([]byte{1, 0, 0, 0}, uint32(key))
	slot = binary.LittleEndian.AppendUint64(slot, value)
	return layPage(uint32(number), uint64(lsn), uint64(lsn), slot)
}

// layPair lays a pair out by hand.
func layPair(lsn uint64, number, zeros uint32, content []byte) []byte {
	b := binary.LittleEndian.AppendUint64(nil, lsn)
	b = binary.LittleEndian.AppendUint32(b, number)
	b = binary.LittleEndian.AppendUint32(b, zeros)
	return append(b, content...)
}

// pairOf lays out the right pair of a right page.
func pairOf(number, lsn int, content []byte) []byte {
	return layPair(uint64(lsn), uint32(number), 0, content)
}

// other gives a copy with one byte another.
func other(b []byte, place int, by byte) []byte {
	b = bytes.Clone(b)
	b[place] ^= by
	return b
}

// spare gives the bytes with marks in the room behind them: whoever reads or writes there is found out.
func spare(b []byte) []byte {
	return append(bytes.Clone(b), bytes.Repeat([]byte{0xa5}, 64)...)[:len(b)]
}

func untouched(t *testing.T, what string, b, want []byte) {
	t.Helper()
	if !bytes.Equal(b, want) || !bytes.Equal(b[len(b):][:64], bytes.Repeat([]byte{0xa5}, 64)) {
		t.Errorf("%s: what was handed in was changed: % x", what, b[:cap(b)])
	}
}

// scribble writes over a list and its spare room.
func scribble(b []byte) {
	b = b[:cap(b)]
	for i := range b {
		b[i] = 0xee
	}
}

func wantBytes(t *testing.T, what string, got, want []byte) {
	t.Helper()
	if !bytes.Equal(got, want) {
		t.Errorf("%s: % x, want % x", what, got, want)
	}
}

func wantMake(t *testing.T, number int, b, want []byte) {
	t.Helper()
	p, e := pair.Make(number, b)
	if !bytes.Equal(p, want) || e != api.OK {
		t.Errorf("Make(%d, % x): % x, %d, want % x, OK", number, b, p, e, want)
	}
}

func refuseMake(t *testing.T, what string, number int, b []byte) {
	t.Helper()
	if p, e := pair.Make(number, b); len(p) != 0 || e != api.ErrPage {
		t.Errorf("%s: Make(%d, % x): % x, %d, want none, ErrPage", what, number, b, p, e)
	}
}

func wantParse(t *testing.T, b []byte, pages, slots, number int, content []byte) {
	t.Helper()
	n, got, e := pair.Parse(b, pages, slots)
	if n != number || !bytes.Equal(got, content) || e != api.OK {
		t.Errorf("Parse(% x, %d, %d): %d, % x, %d, want %d, % x, OK", b, pages, slots, n, got, e, number, content)
	}
}

func refuseParse(t *testing.T, what string, b []byte, pages, slots int) {
	t.Helper()
	if n, got, e := pair.Parse(b, pages, slots); n != 0 || len(got) != 0 || e != api.ErrPair {
		t.Errorf("%s: Parse(% x, %d, %d): %d, % x, %d, want none, ErrPair", what, b, pages, slots, n, got, e)
	}
}

func fresh(t *testing.T, s api.Shape) *disk.Disk {
	t.Helper()
	d, e := disk.New(s)
	if e != api.OK {
		t.Fatalf("New: %d", e)
	}
	return d
}

// holding gives a disk with these bytes in its pair, and marks at all other places.
func holding(t *testing.T, s api.Shape, inPair []byte) *disk.Disk {
	t.Helper()
	m := fresh(t, s).Image()
	for i, b := range m.Pages {
		m.Pages[i] = bytes.Repeat([]byte{0x11 + byte(i)}, len(b))
	}
	m.Pair = inPair
	m.Log = bytes.Repeat([]byte{0x33}, 100)
	for k, b := range m.Masters {
		m.Masters[k] = bytes.Repeat([]byte{0x44 + byte(k)}, len(b))
	}
	d, e := disk.Load(s, m)
	if e != api.OK {
		t.Fatalf("Load: %d", e)
	}
	return d
}

// copyOf gives an image's copy, in which a test lays what it expects.
func copyOf(m api.Image) api.Image {
	for i, b := range m.Pages {
		m.Pages[i] = bytes.Clone(b)
	}
	m.Pair, m.Log = bytes.Clone(m.Pair), bytes.Clone(m.Log)
	for k, b := range m.Masters {
		m.Masters[k] = bytes.Clone(b)
	}
	return m
}

func wantImage(t *testing.T, what string, got, want api.Image) {
	t.Helper()
	for i := range want.Pages {
		wantBytes(t, what+": a page", got.Pages[i], want.Pages[i])
	}
	wantBytes(t, what+": the pair", got.Pair, want.Pair)
	wantBytes(t, what+": the log", got.Log, want.Log)
	for k := range want.Masters {
		wantBytes(t, what+": a master", got.Masters[k], want.Masters[k])
	}
}

// wantDisk looks at what is read, at what lasts, and at how many acts were done since.
func wantDisk(t *testing.T, what string, d *disk.Disk, image, lasts api.Image, acts int) {
	t.Helper()
	wantImage(t, what+", read", d.Image(), image)
	wantImage(t, what+", lasting", d.Lasts(), lasts)
	if d.Acts() != acts {
		t.Errorf("%s: %d acts, want %d", what, d.Acts(), acts)
	}
}

func wantWrite(t *testing.T, what string, d *disk.Disk, number int, b []byte, want api.Errno) {
	t.Helper()
	if e := pair.Write(d, number, b); e != want {
		t.Errorf("%s: Write(%d, % x): %d, want %d", what, number, b, e, want)
	}
}

func wantRepair(t *testing.T, what string, d *disk.Disk, number int, want api.Errno) {
	t.Helper()
	if n, e := pair.Repair(d); n != number || e != want {
		t.Errorf("%s: Repair: %d, %d, want %d, %d", what, n, e, number, want)
	}
}
