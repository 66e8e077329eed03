package duel_test

import (
	"bytes"
	"encoding/binary"
	"hash/crc32"
	"slices"
	"testing"

	"tidemark/api"
	"tidemark/disk"
	"tidemark/duel"
	"tidemark/frame"
	"tidemark/master"
	"tidemark/record"
	"tidemark/restart"
)

// top is the greatest turn and base that a restart takes.
const top = 1<<60 - 1<<40

func ok(t *testing.T, what string, e api.Errno) {
	t.Helper()
	if e != api.OK {
		t.Fatalf("%s: %d", what, e)
	}
}

// small is the chapter's examples' shape.
func small() api.Shape { return api.Shape{Pages: 2, Slots: 2, Log: 1024} }

// world is an image that is laid out part by part.
type world struct {
	t     *testing.T
	shape api.Shape
	m     api.Image
	base  int
	last  map[int]int // by birth: the LSN of the transaction's last record
}

// made gives a blank image: no master, no log.
func made(t *testing.T, s api.Shape) *world {
	w := &world{t: t, shape: s, last: map[int]int{}}
	for range s.Pages {
		w.m.Pages = append(w.m.Pages, make([]byte, 24+16*s.Slots))
	}
	w.m.Pair = make([]byte, 40+16*s.Slots)
	w.m.Masters = [2][]byte{make([]byte, 40), make([]byte, 40)}
	return w
}

// named gives a blank image with a master that says a base.
func named(t *testing.T, s api.Shape, base int) *world {
	w := made(t, s)
	w.says(master.State{Turn: 1, Base: base})
	return w
}

// says lays a master into its place; the base is from then on its base.
func (w *world) says(s master.State) {
	w.m.Masters[s.Turn%2] = masterOf(s)
	w.base = s.Base
}

// next is the next LSN.
func (w *world) next() int { return w.base + len(w.m.Log) + 1 }

// log lays a record behind the others; a transaction's has the one ahead of it as Prev.
func (w *world) log(r api.Record) int {
	w.t.Helper()
	lsn := w.next()
	if r.Kind == api.KBegin {
		w.last[lsn] = lsn
	} else if r.Kind != api.KCheck {
		r.Prev = w.last[r.Birth]
		w.last[r.Birth] = lsn
	}
	body, e := record.Bytes(r)
	ok(w.t, "record.Bytes", e)
	b, e := frame.Wrap(lsn, body)
	ok(w.t, "frame.Wrap", e)
	w.m.Log = append(w.m.Log, b...)
	return lsn
}

func (w *world) begin(id int) int { return w.log(api.Record{Kind: api.KBegin, Id: id}) }

func (w *world) commit(birth int) int { return w.log(api.Record{Kind: api.KCommit, Birth: birth}) }

func (w *world) abort(birth int) int { return w.log(api.Record{Kind: api.KAbort, Birth: birth}) }

func (w *world) end(birth int) int { return w.log(api.Record{Kind: api.KEnd, Birth: birth}) }

// update has n bytes at a place, from zeros to x.
func (w *world) update(birth, number, from, n int, x byte) int {
	w.t.Helper()
	return w.log(api.Record{Kind: api.KUpdate, Birth: birth, Page: number, From: from, Before: make([]byte, n), After: bytes.Repeat([]byte{x}, n)})
}

// undo takes back such an update.
func (w *world) undo(birth, number, from, n, next int) int {
	w.t.Helper()
	return w.log(api.Record{Kind: api.KUndo, Birth: birth, Page: number, From: from, After: make([]byte, n), Next: next})
}

// page has a page stand in its place, with that LSN, and one byte other than zero.
func (w *world) page(number, lsn int, at int, x byte) {
	slots := make([]byte, 16*w.shape.Slots)
	slots[at-16] = x
	w.m.Pages[number] = sheet(number, lsn, slots)
}

// example is chapter 23's first, on a disk with the master {1, 0, 0}.
func example(t *testing.T) *world {
	t.Helper()
	w := named(t, small(), 0)
	w.begin(1)
	w.log(api.Record{Kind: api.KUpdate, Birth: 1, Page: 0, From: 16, Before: make([]byte, 9), After: []byte{1, 0, 0, 0, 8, 0, 0, 0, 5}})
	w.begin(2)
	w.update(91, 1, 16, 1, 1)
	if at := w.commit(91); at != 165 || w.next() != 198 {
		t.Fatalf("the commit at %d, the next at %d", at, w.next())
	}
	return w
}

func exampleReport(redone int) api.Report {
	return api.Report{Winners: []int{91}, Losers: []int{1}, Redone: redone, Undone: 1, Ends: 2}
}

// masterOf lays out a master by hand, with the library's sum.
func masterOf(s master.State) []byte {
	b := binary.LittleEndian.AppendUint64(nil, uint64(s.Turn))
	b = binary.LittleEndian.AppendUint64(b, uint64(s.Base))
	b = binary.LittleEndian.AppendUint64(b, uint64(s.Check))
	b = append(b, 0, 0, 0, 0)
	b = binary.LittleEndian.AppendUint32(b, crc32.ChecksumIEEE(b))
	return binary.LittleEndian.AppendUint64(b, uint64(s.Turn))
}

// sheet lays out a right page by hand.
func sheet(number, lsn int, slots []byte) []byte {
	b := binary.LittleEndian.AppendUint64(nil, uint64(lsn))
	b = binary.LittleEndian.AppendUint32(b, uint32(number))
	rest := binary.LittleEndian.AppendUint64(bytes.Clone(slots), uint64(lsn))
	b = binary.LittleEndian.AppendUint32(b, crc32.ChecksumIEEE(append(bytes.Clone(b), rest...)))
	return append(b, rest...)
}

// pairOf lays out a pair by hand.
func pairOf(number int, b []byte) []byte {
	p := bytes.Clone(b[:8])
	p = binary.LittleEndian.AppendUint32(p, uint32(number))
	return append(append(p, 0, 0, 0, 0), b...)
}

func isZeros(b []byte) bool { return bytes.Equal(b, make([]byte, len(b))) }

func sameReport(a, b api.Report) bool {
	return sameButRedone(a, b) && a.Redone == b.Redone
}

func sameButRedone(a, b api.Report) bool {
	return slices.Equal(a.Winners, b.Winners) && slices.Equal(a.Losers, b.Losers) && a.Undone == b.Undone && a.Ends == b.Ends
}

func isEmpty(r api.Report) bool { return sameReport(r, api.Report{}) }

func samePages(a, b api.Image) bool { return slices.EqualFunc(a.Pages, b.Pages, bytes.Equal) }

func sameImage(a, b api.Image) bool {
	return samePages(a, b) && bytes.Equal(a.Pair, b.Pair) && bytes.Equal(a.Log, b.Log) &&
		bytes.Equal(a.Masters[0], b.Masters[0]) && bytes.Equal(a.Masters[1], b.Masters[1])
}

func sameVerdict(a, b duel.Verdict) bool {
	return sameReport(a.A, b.A) && sameReport(a.B, b.B) && sameImage(a.Left, b.Left) && sameImage(a.Right, b.Right) && a.Same == b.Same
}

// oneByOne tells the verdict by the chapter's words: two disks, one manager behind the other; and Same by what stands at each place.
func oneByOne(t *testing.T, s api.Shape, m api.Image, frames int) (duel.Verdict, api.Errno) {
	t.Helper()
	var told [2]api.Report
	var left [2]api.Image
	for i, manager := range []int{api.Aries, api.Choose} {
		d, e := disk.Load(s, m)
		ok(t, "Load", e)
		r, e := restart.Run(d, frames, manager)
		if e != api.OK {
			return duel.Verdict{}, e
		}
		told[i], left[i] = r, d.Lasts()
	}
	same := sameButRedone(told[0], told[1]) && bytes.Equal(left[0].Log, left[1].Log)
	for k := range 2 {
		same = same && bytes.Equal(left[0].Masters[k], left[1].Masters[k])
	}
	for number := range s.Pages {
		for at := range 16 * s.Slots {
			same = same && left[0].Pages[number][16+at] == left[1].Pages[number][16+at]
		}
	}
	return duel.Verdict{A: told[0], B: told[1], Left: left[0], Right: left[1], Same: same}, api.OK
}

// run calls Run on an image that disk.Load takes, and looks that the verdict is what the managers tell one by one, that the image stays, and at what follows of every image.
func run(t *testing.T, s api.Shape, m api.Image, frames int) (duel.Verdict, api.Errno) {
	t.Helper()
	was := cloneOf(m)
	v, e := duel.Run(s, m, frames)
	want, f := oneByOne(t, s, m, frames)
	if e != f || !sameVerdict(v, want) {
		t.Errorf("Run: %v, %d, want %v, %d", v, e, want, f)
	}
	if !sameImage(m, was) {
		t.Errorf("Run changes the image: %v, was %v", m, was)
	}
	if e != api.OK && e != api.ErrCorrupt {
		t.Errorf("Run: %d", e)
	}
	if v.B.Redone > v.A.Redone {
		t.Errorf("Choose has laid more: %v, %v", v.A, v.B)
	}
	return v, e
}

func cloneOf(m api.Image) api.Image {
	c := api.Image{Pair: bytes.Clone(m.Pair), Log: bytes.Clone(m.Log)}
	for _, b := range m.Pages {
		c.Pages = append(c.Pages, bytes.Clone(b))
	}
	for k, b := range m.Masters {
		c.Masters[k] = bytes.Clone(b)
	}
	return c
}

// run runs the image that was laid out.
func (w *world) run() (duel.Verdict, api.Errno) {
	w.t.Helper()
	return run(w.t, w.shape, w.m, 2)
}

// again has a Run of what a verdict tells do nothing more; or refuse it, if the turn is at its end.
func again(t *testing.T, s api.Shape, v duel.Verdict) {
	t.Helper()
	for _, m := range []api.Image{v.Left, v.Right} {
		w, e := run(t, s, m, 2)
		if turn := turnOf(m); turn > top {
			if e != api.ErrCorrupt {
				t.Errorf("behind the turn %d: %d", turn, e)
			}
			continue
		}
		if e != api.OK || !isEmpty(w.A) || !isEmpty(w.B) || !w.Same || !samePages(w.Left, m) || !samePages(w.Right, m) {
			t.Errorf("a second Run: %v, %d, of %v", w, e, m)
		}
	}
}

// turnOf tells the newest master's turn, of an image that a restart has left.
func turnOf(m api.Image) int {
	turn := 0
	for _, b := range m.Masters {
		if n := int(binary.LittleEndian.Uint64(b)); bytes.Equal(b, masterOf(master.State{Turn: n, Base: int(binary.LittleEndian.Uint64(b[8:])), Check: int(binary.LittleEndian.Uint64(b[16:]))})) {
			turn = max(turn, n)
		}
	}
	return turn
}
