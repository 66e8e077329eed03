package sound_test

import (
	"bytes"
	"encoding/binary"
	"hash/crc32"
	"slices"
	"testing"

	"tidemark/api"
	"tidemark/disk"
	"tidemark/frame"
	"tidemark/master"
	"tidemark/record"
	"tidemark/restart"
	"tidemark/sound"
)

// top is the greatest turn and base that the chapter lets be.
const top = 1<<60 - 1<<40

func ok(t *testing.T, what string, e api.Errno) {
	t.Helper()
	if e != api.OK {
		t.Fatalf("%s: %d", what, e)
	}
}

func shapeOf(pages, slots, log int) api.Shape {
	return api.Shape{Pages: pages, Slots: slots, Log: log}
}

// small is the chapter's examples' shape.
func small() api.Shape { return shapeOf(2, 2, 1024) }

// world is an image that is laid out part by part.
type world struct {
	t     *testing.T
	shape api.Shape
	m     api.Image
	base  int
	last  map[int]int // by birth: the LSN of the transaction's last record
}

// blank gives an image of zeros: no master, no log.
func blank(t *testing.T, s api.Shape) *world {
	w := &world{t: t, shape: s, last: map[int]int{}}
	size := 24 + 16*s.Slots
	for range s.Pages {
		w.m.Pages = append(w.m.Pages, make([]byte, size))
	}
	w.m.Pair = make([]byte, 16+size)
	w.m.Masters = [2][]byte{make([]byte, 40), make([]byte, 40)}
	return w
}

// named gives a blank image with a master that says a base.
func named(t *testing.T, s api.Shape, base int) *world {
	t.Helper()
	w := blank(t, s)
	w.says(master.State{Turn: 1, Base: base})
	return w
}

// says lays a master into its place; the base is from then on its base.
func (w *world) says(s master.State) {
	w.m.Masters[s.Turn%2] = masterOf(s)
	w.base = s.Base
}

// next is the next LSN.
func (w *world) next() int { return w.base + len(w.m.Log) + 1 }

// log lays a record behind the others; a transaction's has the one ahead of it as Prev.
func (w *world) log(r api.Record) int {
	w.t.Helper()
	lsn := w.next()
	if r.Kind == api.KBegin {
		w.last[lsn] = lsn
	} else if r.Kind != api.KCheck {
		r.Prev = w.last[r.Birth]
		w.last[r.Birth] = lsn
	}
	body, e := record.Bytes(r)
	ok(w.t, "record.Bytes", e)
	b, e := frame.Wrap(lsn, body)
	ok(w.t, "frame.Wrap", e)
	w.m.Log = append(w.m.Log, b...)
	return lsn
}

func (w *world) begin(id int) int { return w.log(api.Record{Kind: api.KBegin, Id: id}) }

func (w *world) commit(birth int) int { return w.log(api.Record{Kind: api.KCommit, Birth: birth}) }

func (w *world) abort(birth int) int { return w.log(api.Record{Kind: api.KAbort, Birth: birth}) }

func (w *world) end(birth int) int { return w.log(api.Record{Kind: api.KEnd, Birth: birth}) }

// update has n bytes at a place, from zeros to x.
func (w *world) update(birth, number, from, n int, x byte) int {
	w.t.Helper()
	return w.log(api.Record{Kind: api.KUpdate, Birth: birth, Page: number, From: from, Before: make([]byte, n), After: bytes.Repeat([]byte{x}, n)})
}

// undo takes back such an update.
func (w *world) undo(birth, number, from, n, next int) int {
	w.t.Helper()
	return w.log(api.Record{Kind: api.KUndo, Birth: birth, Page: number, From: from, After: make([]byte, n), Next: next})
}

// page has a page stand in its place, with that LSN, and slots full of a byte.
func (w *world) page(number, lsn int, x byte) []byte {
	w.m.Pages[number] = w.sheet(number, lsn, x)
	return w.m.Pages[number]
}

func (w *world) sheet(number, lsn int, x byte) []byte {
	return sheet(number, lsn, bytes.Repeat([]byte{x}, 16*w.shape.Slots))
}

// inPair has a page stand in the pair.
func (w *world) inPair(number, lsn int, x byte) {
	w.m.Pair = pairOf(number, w.sheet(number, lsn, x))
}

// example is chapter 23's first: a loser, and a winner that has no end record.
func example(t *testing.T) *world {
	t.Helper()
	w := named(t, small(), 0)
	w.begin(1)
	w.log(api.Record{Kind: api.KUpdate, Birth: 1, Page: 0, From: 16, Before: make([]byte, 9), After: []byte{1, 0, 0, 0, 8, 0, 0, 0, 5}})
	w.begin(2)
	w.update(91, 1, 16, 1, 1)
	if at := w.commit(91); at != 165 || w.next() != 198 {
		t.Fatalf("the commit at %d, the next at %d", at, w.next())
	}
	return w
}

// breaks has Check tell that rule (0: none), and both managers take or refuse the image as it says.
func (w *world) breaks(what string, want int) {
	w.t.Helper()
	if got := check(w.t, w.shape, w.m); got != want {
		w.t.Errorf("%s: %d, want %d", what, got, want)
	}
	for _, manager := range []int{api.Aries, api.Choose} {
		managed(w.t, what, w.shape, w.m, want, manager, 2)
	}
}

// managed has a manager answer what a rule's number foretells.
func managed(t *testing.T, what string, s api.Shape, m api.Image, rule, manager, frames int) {
	t.Helper()
	d, e := disk.Load(s, m)
	if (e == api.OK) != (rule != 1) {
		t.Errorf("%s: rule %d, and Load answers %d", what, rule, e)
	}
	if e != api.OK {
		return
	}
	want := api.OK
	if rule != 0 {
		want = api.ErrCorrupt
	}
	if _, e := restart.Run(d, frames, manager); e != want {
		t.Errorf("%s: rule %d, and a restart by %d with %d frames answers %d", what, rule, manager, frames, e)
	}
}

// check calls Check twice, with spare room behind each part, and looks that all of it is as it was.
func check(t *testing.T, s api.Shape, m api.Image) int {
	t.Helper()
	roomy, was := withRoom(m), withRoom(m)
	got := sound.Check(s, roomy)
	if !sameImage(whole(roomy), whole(was)) {
		t.Errorf("Check has changed what it was handed")
	}
	if again := sound.Check(s, roomy); again != got {
		t.Errorf("Check answers %d, and then %d", got, again)
	}
	return got
}

// withRoom copies an image, with spare room behind each part.
func withRoom(m api.Image) api.Image {
	roomy := func(b []byte) []byte {
		return append(append(make([]byte, 0, len(b)+9), b...), 5, 5, 5, 5, 5, 5, 5, 5, 5)[:len(b)]
	}
	c := api.Image{Pair: roomy(m.Pair), Log: roomy(m.Log), Pages: make([][]byte, 0, len(m.Pages)+2)}
	for _, b := range m.Pages {
		c.Pages = append(c.Pages, roomy(b))
	}
	for k, b := range m.Masters {
		c.Masters[k] = roomy(b)
	}
	return c
}

// whole gives an image's parts with their spare room.
func whole(m api.Image) api.Image {
	c := api.Image{Pair: m.Pair[:cap(m.Pair)], Log: m.Log[:cap(m.Log)]}
	for _, b := range m.Pages[:cap(m.Pages)] {
		c.Pages = append(c.Pages, b[:cap(b)])
	}
	for k, b := range m.Masters {
		c.Masters[k] = b[:cap(b)]
	}
	return c
}

func sameImage(a, b api.Image) bool {
	return slices.EqualFunc(a.Pages, b.Pages, bytes.Equal) && bytes.Equal(a.Pair, b.Pair) && bytes.Equal(a.Log, b.Log) &&
		bytes.Equal(a.Masters[0], b.Masters[0]) && bytes.Equal(a.Masters[1], b.Masters[1])
}

// masterOf lays out a master by hand, with the library's sum.
func masterOf(s master.State) []byte {
	b := binary.LittleEndian.AppendUint64(nil, uint64(s.Turn))
	b = binary.LittleEndian.AppendUint64(b, uint64(s.Base))
	b = binary.LittleEndian.AppendUint64(b, uint64(s.Check))
	b = append(b, 0, 0, 0, 0)
	b = binary.LittleEndian.AppendUint32(b, crc32.ChecksumIEEE(b))
	return binary.LittleEndian.AppendUint64(b, uint64(s.Turn))
}

// sheet lays out a right page by hand.
func sheet(number, lsn int, slots []byte) []byte {
	b := binary.LittleEndian.AppendUint64(nil, uint64(lsn))
	b = binary.LittleEndian.AppendUint32(b, uint32(number))
	rest := binary.LittleEndian.AppendUint64(bytes.Clone(slots), uint64(lsn))
	b = binary.LittleEndian.AppendUint32(b, crc32.ChecksumIEEE(append(bytes.Clone(b), rest...)))
	return append(b, rest...)
}

// pairOf lays out a pair by hand.
func pairOf(number int, b []byte) []byte {
	p := bytes.Clone(b[:8])
	p = binary.LittleEndian.AppendUint32(p, uint32(number))
	return append(append(p, 0, 0, 0, 0), b...)
}

func slotsOf(b []byte) []byte { return b[16 : len(b)-8] }

func lsnOf(b []byte) int { return int(binary.LittleEndian.Uint64(b)) }

func isZeros(b []byte) bool { return bytes.Equal(b, make([]byte, len(b))) }

// isRight tells whether a page is just as it is laid out by hand, or zeros.
func isRight(b []byte, number int) bool {
	lsn := binary.LittleEndian.Uint64(b)
	return isZeros(b) || lsn <= 1<<60 && bytes.Equal(b, sheet(number, int(lsn), slotsOf(b)))
}
