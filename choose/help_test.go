package choose_test

import (
	"bytes"
	"encoding/binary"
	"hash/crc32"
	"reflect"
	"slices"
	"testing"

	"tidemark/api"
	"tidemark/aries"
	"tidemark/choose"
	"tidemark/disk"
	"tidemark/look"
	"tidemark/pool"
	"tidemark/wal"
)

// setup is what a log is set right on.
type setup struct {
	shape        api.Shape
	frames, base int
}

// small is the chapter's examples' own; wide is one in which nothing is scarce.
func small() setup {
	return setup{shape: api.Shape{Pages: 2, Slots: 2, Log: 1024}, frames: 2}
}

func wide() setup {
	return setup{shape: api.Shape{Pages: 6, Slots: 3, Log: 65536}, frames: 6, base: 500}
}

// world is all that Run is handed but for what was found.
type world struct {
	t *testing.T
	s setup
	d *disk.Disk
	l *wal.Log
	p *pool.Pool
}

func made(t *testing.T, s setup) *world {
	t.Helper()
	d, e := disk.New(s.shape)
	ok(t, "disk.New", e)
	return on(t, d, s)
}

func on(t *testing.T, d *disk.Disk, s setup) *world {
	t.Helper()
	l, e := wal.Open(d, s.base)
	ok(t, "wal.Open", e)
	p, e := pool.New(d, l, s.frames)
	ok(t, "pool.New", e)
	return &world{t: t, s: s, d: d, l: l, p: p}
}

func ok(t *testing.T, what string, e api.Errno) {
	t.Helper()
	if e != api.OK {
		t.Fatalf("%s: %d", what, e)
	}
}

// append lays a record behind the others; a transaction's has the one ahead of it as Prev.
func (x *world) append(r api.Record) int {
	x.t.Helper()
	if r.Kind != api.KBegin && r.Kind != api.KCheck && r.Prev == 0 {
		r.Prev = x.lastOf(r.Birth)
	}
	lsn, e := x.l.Append(r)
	ok(x.t, "Append", e)
	return lsn
}

func (x *world) lastOf(birth int) int {
	last := birth
	for lsn, r := range x.l.All() {
		if r.Birth == birth {
			last = lsn
		}
	}
	return last
}

func (x *world) begin(id int) int { return x.append(api.Record{Kind: api.KBegin, Id: id}) }

func (x *world) commit(birth int) int {
	return x.append(api.Record{Kind: api.KCommit, Birth: birth})
}

func (x *world) abort(birth int) int {
	return x.append(api.Record{Kind: api.KAbort, Birth: birth})
}

func (x *world) end(birth int) int { return x.append(api.Record{Kind: api.KEnd, Birth: birth}) }

// update has other bytes at a range, each one more than the log says of it so far.
func (x *world) update(birth, number, from, n int) int {
	x.t.Helper()
	_, slots := x.told(number, x.l.End())
	before := bytes.Clone(slots[from-16 : from-16+n])
	after := bytes.Clone(before)
	for i := range after {
		after[i]++
	}
	return x.append(api.Record{Kind: api.KUpdate, Birth: birth, Page: number, From: from, Before: before, After: after})
}

// undo takes back the update that has an LSN.
func (x *world) undo(lsn, next int) int {
	x.t.Helper()
	u, e := x.l.Read(lsn)
	ok(x.t, "Read", e)
	return x.append(api.Record{Kind: api.KUndo, Birth: u.Birth, Page: u.Page, From: u.From, After: u.Before, Next: next})
}

// checkpoint says the rows that are there.
func (x *world) checkpoint(dirty ...api.Rec) int {
	x.t.Helper()
	return x.append(api.Record{Kind: api.KCheck, Rows: x.find(0).Rows, Dirty: dirty})
}

// find asks what the log says, what is in memory too.
func (x *world) find(check int) look.Result {
	x.t.Helper()
	return x.findFor(check, x.s.shape.Pages, x.s.shape.Slots)
}

// findFor asks it of a disk with other pages.
func (x *world) findFor(check, pages, slots int) look.Result {
	x.t.Helper()
	found, e := look.Analyse(x.bytes(), x.l.Base(), check, pages, slots)
	ok(x.t, "Analyse", e)
	return found
}

// bytes gives all frames of the log.
func (x *world) bytes() []byte {
	x.t.Helper()
	d, e := disk.New(x.s.shape)
	ok(x.t, "disk.New", e)
	l, e := wal.Open(d, x.l.Base())
	ok(x.t, "wal.Open", e)
	for _, r := range x.l.All() {
		_, e := l.Append(r)
		ok(x.t, "Append", e)
	}
	ok(x.t, "Flush", l.Flush(l.End()))
	return d.Image().Log
}

// told gives the LSN and the slots that the log says of a page, up to an LSN.
func (x *world) told(number, upTo int) (int, []byte) {
	return told(linesOf(x.l), make([]byte, 16*x.s.shape.Slots), number, upTo)
}

// told lays a page's records over what it had, up to an LSN.
func told(lines []line, was []byte, number, upTo int) (int, []byte) {
	at, slots := 0, bytes.Clone(was)
	for _, x := range lines {
		if (x.r.Kind == api.KUpdate || x.r.Kind == api.KUndo) && x.r.Page == number && x.lsn <= upTo {
			at = x.lsn
			copy(slots[x.r.From-16:], x.r.After)
		}
	}
	return at, slots
}

// lasting has a page stand on the disk as it was behind the record that has an LSN; the log is flushed first.
func (x *world) lasting(number, upTo int) {
	x.t.Helper()
	ok(x.t, "Flush", x.l.Flush(x.l.End()))
	if at, slots := x.told(number, upTo); at > 0 {
		ok(x.t, "WritePage", x.d.WritePage(number, sheet(number, at, slots...)))
		ok(x.t, "Sync", x.d.Sync())
	}
}

// anew gives a world on a copy of the disk, as it is opened there; the log is flushed first.
func (x *world) anew() *world {
	x.t.Helper()
	ok(x.t, "Flush", x.l.Flush(x.l.End()))
	return on(x.t, x.d.Copy(), x.s)
}

// run calls Run, and looks that all is zero beside an error, and that found is as it was.
func (x *world) run(found look.Result) (api.Report, api.Errno) {
	x.t.Helper()
	was := cloned(found)
	r, e := choose.Run(x.l, x.p, found)
	if e != api.OK && (len(r.Winners)+len(r.Losers) > 0 || r.Redone != 0 || r.Undone != 0 || r.Ends != 0) {
		x.t.Errorf("Run: %v beside %d", r, e)
	}
	if !reflect.DeepEqual(found, was) {
		x.t.Errorf("Run: found was %v, is %v", was, found)
	}
	return r, e
}

func (x *world) runs(found look.Result, want api.Report) {
	x.t.Helper()
	r, e := x.run(found)
	if e != api.OK || !sameReport(r, want) {
		x.t.Errorf("Run: %v, %d, want %v, OK", r, e, want)
	}
}

func (x *world) fails(found look.Result, want api.Errno) {
	x.t.Helper()
	if _, e := x.run(found); e != want {
		x.t.Errorf("Run: %d, want %d", e, want)
	}
}

func cloned(r look.Result) look.Result {
	r.Rows, r.Winners, r.Fresh, r.Undo = slices.Clone(r.Rows), slices.Clone(r.Winners), slices.Clone(r.Fresh), slices.Clone(r.Undo)
	return r
}

func sameReport(a, b api.Report) bool {
	return sameButRedone(a, b) && a.Redone == b.Redone
}

func sameButRedone(a, b api.Report) bool {
	return slices.Equal(a.Winners, b.Winners) && slices.Equal(a.Losers, b.Losers) && a.Undone == b.Undone && a.Ends == b.Ends
}

// wanted are steps that answer what the chapter says of these fresh births.
type wanted struct{ fresh []int }

func (w wanted) Redo(lsn int, r api.Record, page int) bool {
	isPassedOver := r.Kind == 2 && slices.Contains(w.fresh, r.Birth)
	return !isPassedOver && page < lsn
}

func (w wanted) Lay(lsn int, r api.Record, page int) bool {
	return !slices.Contains(w.fresh, r.Birth) || page >= lsn
}

var _ aries.Steps = wanted{}

// line is a record of the log, with its LSN.
type line struct {
	lsn int
	r   api.Record
}

func undoOf(lsn, birth, prev, number, from int, after []byte, next int) line {
	return line{lsn, api.Record{Kind: api.KUndo, Birth: birth, Prev: prev, Page: number, From: from, After: after, Next: next}}
}

func endOf(lsn, birth, prev int) line {
	return line{lsn, api.Record{Kind: api.KEnd, Birth: birth, Prev: prev}}
}

func linesOf(l *wal.Log) []line {
	var all []line
	for lsn, r := range l.All() {
		all = append(all, line{lsn, r})
	}
	return all
}

// sameLine holds two lines against each other: a list of no item may be nil.
func sameLine(a, b line) bool {
	alike := bytes.Equal(a.r.Before, b.r.Before) && bytes.Equal(a.r.After, b.r.After) && slices.Equal(a.r.Rows, b.r.Rows) && slices.Equal(a.r.Dirty, b.r.Dirty)
	for _, r := range []*api.Record{&a.r, &b.r} {
		r.Before, r.After, r.Rows, r.Dirty = nil, nil, nil, nil
	}
	return alike && reflect.DeepEqual(a, b)
}

func sameLines(a, b []line) bool { return slices.EqualFunc(a, b, sameLine) }

// wantMore looks at what was appended behind those that there were.
func (x *world) wantMore(were []line, more ...line) {
	x.t.Helper()
	got := linesOf(x.l)
	if len(got) < len(were) || !sameLines(got[:len(were)], were) || !sameLines(got[len(were):], more) {
		x.t.Errorf("the log: %v, want %v and %v", got, were, more)
	}
}

// page gives a page as it is: in its frame, or else on the disk.
func (x *world) page(number int) []byte {
	if b, is := x.p.Look(number); is {
		return b
	}
	return x.d.Image().Pages[number]
}

func (x *world) pages() [][]byte {
	var all [][]byte
	for n := range x.s.shape.Pages {
		all = append(all, x.page(n))
	}
	return all
}

func (x *world) slots() [][]byte {
	var all [][]byte
	for _, b := range x.pages() {
		all = append(all, slotsOf(b))
	}
	return all
}

func (x *world) wantPage(number int, want []byte) {
	x.t.Helper()
	if got := x.page(number); !bytes.Equal(got, want) {
		x.t.Errorf("page %d: % x, want % x", number, got, want)
	}
}

// sheet lays out a right page by hand, with the library's sum; with the LSN 0 it is zeros.
func sheet(number, lsn int, slots ...byte) []byte {
	if lsn == 0 {
		return make([]byte, len(slots)+24)
	}
	b := binary.LittleEndian.AppendUint64(nil, uint64(lsn))
	b = binary.LittleEndian.AppendUint32(b, uint32(number))
	rest := binary.LittleEndian.AppendUint64(bytes.Clone(slots), uint64(lsn))
	sum := crc32.ChecksumIEEE(append(bytes.Clone(b), rest...))
	b = binary.LittleEndian.AppendUint32(b, sum)
	return append(b, rest...)
}

// slotsWith are the bytes of so many slots: zeros, but for what stands at a place of the page.
func slotsWith(slots, from int, b ...byte) []byte {
	all := make([]byte, 16*slots)
	copy(all[from-16:], b)
	return all
}

func slotsOf(b []byte) []byte { return b[16 : len(b)-8] }

func lsnOf(b []byte) int { return int(binary.LittleEndian.Uint64(b)) }

// isPinned tells it by the error that bytes of a wrong length meet.
func (x *world) isPinned(number int) bool { return x.p.Change(number, nil, 0) == api.ErrBytes }

func (x *world) wantNoPins() {
	x.t.Helper()
	for number := range x.s.shape.Pages {
		if x.isPinned(number) {
			x.t.Errorf("page %d is pinned", number)
		}
	}
}

func (x *world) pin(number int) {
	x.t.Helper()
	_, e := x.p.Pin(number, 0)
	ok(x.t, "Pin", e)
}

// state is all that is to be seen of a world, but for its records.
type state struct {
	end, flushed int
	pages        [][]byte
	held         []int
	dirty        []api.Rec
	acts         int
	read, lasts  api.Image
}

func (x *world) state() state {
	return state{
		end: x.l.End(), flushed: x.l.Flushed(), pages: x.pages(),
		held: x.p.Held(), dirty: x.p.Dirty(), acts: x.d.Acts(), read: x.d.Image(), lasts: x.d.Lasts(),
	}
}

// wantLike looks whether another world was left just as this one.
func (x *world) wantLike(y *world) {
	x.t.Helper()
	if !sameLines(linesOf(x.l), linesOf(y.l)) {
		x.t.Errorf("the log %v, want %v", linesOf(x.l), linesOf(y.l))
	}
	if a, b := x.state(), y.state(); !reflect.DeepEqual(a, b) {
		x.t.Errorf("left %v, want %v", a, b)
	}
}
