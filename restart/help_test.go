package restart_test

import (
	"bytes"
	"encoding/binary"
	"hash/crc32"
	"reflect"
	"slices"
	"testing"

	"tidemark/api"
	"tidemark/disk"
	"tidemark/frame"
	"tidemark/master"
	"tidemark/record"
	"tidemark/restart"
)

// top is the greatest turn and base that the chapter lets be.
const top = 1<<60 - 1<<40

func ok(t *testing.T, what string, e api.Errno) {
	t.Helper()
	if e != api.OK {
		t.Fatalf("%s: %d", what, e)
	}
}

// small is the chapter's examples' shape.
func small() api.Shape { return api.Shape{Pages: 2, Slots: 2, Log: 1024} }

// world is an image that is laid out part by part.
type world struct {
	t     *testing.T
	shape api.Shape
	m     api.Image
	base  int
	last  map[int]int // by birth: the LSN of the transaction's last record
}

// made gives a blank image: no master, no log.
func made(t *testing.T, s api.Shape) *world {
	w := &world{t: t, shape: s, last: map[int]int{}}
	for range s.Pages {
		w.m.Pages = append(w.m.Pages, make([]byte, w.pageBytes()))
	}
	w.m.Pair = make([]byte, 16+w.pageBytes())
	w.m.Masters = [2][]byte{make([]byte, 40), make([]byte, 40)}
	return w
}

// named gives a blank image with a master that says a base.
func named(t *testing.T, s api.Shape, base int) *world {
	t.Helper()
	w := made(t, s)
	w.says(master.State{Turn: 1, Base: base})
	return w
}

func (w *world) pageBytes() int { return 24 + 16*w.shape.Slots }

// says lays a master into its place; the base is from then on its base.
func (w *world) says(s master.State) {
	w.m.Masters[s.Turn%2] = masterOf(s)
	w.base = s.Base
}

// next is the next LSN.
func (w *world) next() int { return w.base + len(w.m.Log) + 1 }

// log lays a record behind the others; a transaction's has the one ahead of it as Prev.
func (w *world) log(r api.Record) int {
	w.t.Helper()
	lsn := w.next()
	if r.Kind == api.KBegin {
		r.Birth = 0
		w.last[lsn] = lsn
	} else if r.Kind != api.KCheck {
		r.Prev = w.last[r.Birth]
		w.last[r.Birth] = lsn
	}
	body, e := record.Bytes(r)
	ok(w.t, "record.Bytes", e)
	b, e := frame.Wrap(lsn, body)
	ok(w.t, "frame.Wrap", e)
	w.m.Log = append(w.m.Log, b...)
	return lsn
}

func (w *world) begin(id int) int { return w.log(api.Record{Kind: api.KBegin, Id: id}) }

func (w *world) commit(birth int) int { return w.log(api.Record{Kind: api.KCommit, Birth: birth}) }

func (w *world) abort(birth int) int { return w.log(api.Record{Kind: api.KAbort, Birth: birth}) }

func (w *world) end(birth int) int { return w.log(api.Record{Kind: api.KEnd, Birth: birth}) }

// update has n bytes at a place, from zeros to x.
func (w *world) update(birth, number, from, n int, x byte) int {
	w.t.Helper()
	return w.log(api.Record{Kind: api.KUpdate, Birth: birth, Page: number, From: from, Before: make([]byte, n), After: bytes.Repeat([]byte{x}, n)})
}

// undo takes back such an update.
func (w *world) undo(birth, number, from, n, next int) int {
	w.t.Helper()
	return w.log(api.Record{Kind: api.KUndo, Birth: birth, Page: number, From: from, After: make([]byte, n), Next: next})
}

// page has a page stand in its place, with that LSN, and one byte other than zero.
func (w *world) page(number, lsn int, at int, x byte) []byte {
	slots := make([]byte, 16*w.shape.Slots)
	slots[at-16] = x
	w.m.Pages[number] = sheet(number, lsn, slots)
	return w.m.Pages[number]
}

func (w *world) load() *disk.Disk {
	w.t.Helper()
	d, e := disk.Load(w.shape, w.m)
	ok(w.t, "disk.Load", e)
	return d
}

// example is chapter 23's first.
func example(t *testing.T) *world {
	t.Helper()
	w := named(t, small(), 0)
	w.begin(1)
	w.log(api.Record{Kind: api.KUpdate, Birth: 1, Page: 0, From: 16, Before: make([]byte, 9), After: []byte{1, 0, 0, 0, 8, 0, 0, 0, 5}})
	w.begin(2)
	w.update(91, 1, 16, 1, 1)
	if at := w.commit(91); at != 165 || w.next() != 198 {
		t.Fatalf("the commit at %d, the next at %d", at, w.next())
	}
	return w
}

func exampleReport(redone int) api.Report {
	return api.Report{Winners: []int{91}, Losers: []int{1}, Redone: redone, Undone: 1, Ends: 2}
}

// masterOf lays out a master by hand, with the library's sum.
func masterOf(s master.State) []byte {
	b := binary.LittleEndian.AppendUint64(nil, uint64(s.Turn))
	b = binary.LittleEndian.AppendUint64(b, uint64(s.Base))
	b = binary.LittleEndian.AppendUint64(b, uint64(s.Check))
	b = append(b, 0, 0, 0, 0)
	b = binary.LittleEndian.AppendUint32(b, crc32.ChecksumIEEE(b))
	return binary.LittleEndian.AppendUint64(b, uint64(s.Turn))
}

// sheet lays out a right page by hand.
func sheet(number, lsn int, slots []byte) []byte {
	b := binary.LittleEndian.AppendUint64(nil, uint64(lsn))
	b = binary.LittleEndian.AppendUint32(b, uint32(number))
	rest := binary.LittleEndian.AppendUint64(bytes.Clone(slots), uint64(lsn))
	b = binary.LittleEndian.AppendUint32(b, crc32.ChecksumIEEE(append(bytes.Clone(b), rest...)))
	return append(b, rest...)
}

// pairOf lays out a pair by hand.
func pairOf(number int, b []byte) []byte {
	p := bytes.Clone(b[:8])
	p = binary.LittleEndian.AppendUint32(p, uint32(number))
	return append(append(p, 0, 0, 0, 0), b...)
}

func slotsOf(b []byte) []byte { return b[16 : len(b)-8] }

func isZeros(b []byte) bool { return bytes.Equal(b, make([]byte, len(b))) }

func sameReport(a, b api.Report) bool {
	return sameButRedone(a, b) && a.Redone == b.Redone
}

func sameButRedone(a, b api.Report) bool {
	return slices.Equal(a.Winners, b.Winners) && slices.Equal(a.Losers, b.Losers) && a.Undone == b.Undone && a.Ends == b.Ends
}

func isEmpty(r api.Report) bool { return sameReport(r, api.Report{}) }

func sameImage(a, b api.Image) bool {
	return slices.EqualFunc(a.Pages, b.Pages, bytes.Equal) && bytes.Equal(a.Pair, b.Pair) && bytes.Equal(a.Log, b.Log) &&
		bytes.Equal(a.Masters[0], b.Masters[0]) && bytes.Equal(a.Masters[1], b.Masters[1])
}

// run calls Run, and looks that all is zero beside an error.
func run(t *testing.T, d *disk.Disk, frames, manager int) (api.Report, api.Errno) {
	t.Helper()
	r, e := restart.Run(d, frames, manager)
	if e != api.OK && !isEmpty(r) {
		t.Errorf("Run: %v beside %d", r, e)
	}
	return r, e
}

// runs has a Run answer OK and that report, and looks at what P25.3 says of what is left.
func runs(t *testing.T, d *disk.Disk, frames, manager int, want api.Report, named master.State) {
	t.Helper()
	r, e := run(t, d, frames, manager)
	if e != api.OK || !sameReport(r, want) {
		t.Errorf("Run by %d: %v, %d, want %v, OK", manager, r, e, want)
	}
	left(t, d, named)
}

// left looks at what an OK leaves.
func left(t *testing.T, d *disk.Disk, named master.State) {
	t.Helper()
	m := d.Image()
	if !reflect.DeepEqual(m, d.Lasts()) {
		t.Errorf("something is loose")
	}
	if len(m.Log) != 0 {
		t.Errorf("%d bytes of log are left", len(m.Log))
	}
	for number, b := range m.Pages {
		if !isRight(b, number) {
			t.Errorf("page %d is not right: % x", number, b)
		}
	}
	if number := m.Pair[8]; !isZeros(m.Pair) && (int(number) >= len(m.Pages) || !bytes.Equal(m.Pair, pairOf(int(number), m.Pair[16:])) || !isRight(m.Pair[16:], int(number)) || isZeros(m.Pair[:8])) {
		t.Errorf("the pair is not right: % x", m.Pair)
	}
	if s, there, e := master.Newest(d.Copy()); s != named || !there || e != api.OK {
		t.Errorf("the newest master: %v, %v, %d, want %v", s, there, e, named)
	}
}

// isRight tells whether a page is just as it is laid out by hand, or zeros.
func isRight(b []byte, number int) bool {
	lsn := binary.LittleEndian.Uint64(b)
	return isZeros(b) || lsn <= 1<<60 && bytes.Equal(b, sheet(number, int(lsn), slotsOf(b)))
}

// corrupt has both managers refuse an image, and leave it as it was.
func (w *world) corrupt(what string) {
	w.t.Helper()
	for _, manager := range []int{api.Aries, api.Choose} {
		d := w.load()
		if r, e := run(w.t, d, 2, manager); e != api.ErrCorrupt {
			w.t.Errorf("%s: by %d: %v, %d, want ErrCorrupt", what, manager, r, e)
		}
		if !sameImage(d.Image(), w.m) || !sameImage(d.Lasts(), w.m) {
			w.t.Errorf("%s: by %d: something was written", what, manager)
		}
	}
}

// takes has both managers take an image; the report is the same but for Redone.
func (w *world) takes(what string, named master.State, want api.Report) {
	w.t.Helper()
	for _, manager := range []int{api.Aries, api.Choose} {
		d := w.load()
		if r, e := run(w.t, d, 2, manager); e != api.OK || !sameButRedone(r, want) {
			w.t.Errorf("%s: by %d: %v, %d, want %v, OK", what, manager, r, e, want)
		}
		left(w.t, d, named)
	}
}
