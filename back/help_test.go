package back_test

import (
	"bytes"
	"encoding/binary"
	"hash/crc32"
	"reflect"
	"testing"

	"tidemark/api"
	"tidemark/back"
	"tidemark/disk"
	"tidemark/pool"
	"tidemark/room"
	"tidemark/table"
	"tidemark/wal"
)

// setup is what a transaction is undone on; area is the Room's, base the log's.
type setup struct {
	shape               api.Shape
	frames, table, area int
	base                int
}

// small is the chapter's examples' own; wide is one in which nothing is scarce.
func small() setup {
	return setup{shape: api.Shape{Pages: 2, Slots: 1, Log: 1024}, frames: 2, table: 2, area: 1024}
}

func wide() setup {
	return setup{shape: api.Shape{Pages: 4, Slots: 2, Log: 65536}, frames: 4, table: 8, area: 65536}
}

// world is all that Roll is handed.
type world struct {
	t *testing.T
	s setup
	d *disk.Disk
	l *wal.Log
	p *pool.Pool
	b *table.Table
	r *room.Room
}

func made(t *testing.T, s setup) *world {
	t.Helper()
	d, e := disk.New(s.shape)
	ok(t, "disk.New", e)
	return on(t, d, s)
}

func on(t *testing.T, d *disk.Disk, s setup) *world {
	t.Helper()
	l, e := wal.Open(d, s.base)
	ok(t, "wal.Open", e)
	p, e := pool.New(d, l, s.frames)
	ok(t, "pool.New", e)
	b, e := table.New(s.table)
	ok(t, "table.New", e)
	return &world{t: t, s: s, d: d, l: l, p: p, b: b, r: room.New(s.area)}
}

func ok(t *testing.T, what string, e api.Errno) {
	t.Helper()
	if e != api.OK {
		t.Fatalf("%s: %d", what, e)
	}
}

// append lays a record behind the others.
func (x *world) append(r api.Record) int {
	x.t.Helper()
	lsn, e := x.l.Append(r)
	ok(x.t, "Append", e)
	return lsn
}

// begin opens a transaction as layer 19 does.
func (x *world) begin(id int) int {
	x.t.Helper()
	birth := x.append(api.Record{Kind: api.KBegin, Id: id})
	ok(x.t, "table.Put", x.b.Put(api.Row{Birth: birth, Id: id, State: api.SOpen, Last: birth}))
	ok(x.t, "room.Begin", x.r.Begin(birth))
	return birth
}

// update gives bytes of a page others, as layer 19 does, and tells the record's LSN.
func (x *world) update(birth, number, from int, after ...byte) int {
	x.t.Helper()
	b, e := x.p.Pin(number, 0)
	ok(x.t, "Pin", e)
	before := bytes.Clone(b[from : from+len(after)])
	lsn := x.logUpdate(birth, number, from, before, after)
	copy(b[from:], after)
	ok(x.t, "Change", x.p.Change(number, b, lsn))
	x.p.Unpin(number)
	return lsn
}

// logUpdate is an update of which the page knows nothing.
func (x *world) logUpdate(birth, number, from int, before, after []byte) int {
	x.t.Helper()
	row, _ := x.b.Get(birth)
	lsn := x.append(api.Record{Kind: api.KUpdate, Birth: birth, Prev: row.Last, Page: number, From: from, Before: before, After: after})
	row.Last, row.Next = lsn, lsn
	ok(x.t, "table.Set", x.b.Set(row))
	ok(x.t, "room.Update", x.r.Update(birth, len(after)))
	return lsn
}

// example gives the chapter's transaction: birth 1, number 3, two updates.
func example(t *testing.T) *world {
	t.Helper()
	x := made(t, small())
	x.begin(3)
	x.update(1, 0, 16, 1)
	x.update(1, 1, 24, 5, 6)
	x.wantRows(api.Row{Birth: 1, Id: 3, State: api.SOpen, Last: 75, Next: 75})
	x.wantEnd(117)
	x.wantKept(1, 99+47+48, 99+47+48)
	return x
}

// exampleLog is what the log has then; exampleBack what Roll appends.
func exampleLog() []line {
	return []line{
		beginOf(1, 3),
		updateOf(35, 1, 1, 0, 16, []byte{0}, []byte{1}),
		updateOf(75, 1, 35, 1, 24, []byte{0, 0}, []byte{5, 6}),
	}
}

func exampleBack() []line {
	return []line{
		abortOf(117, 1, 75),
		undoOf(150, 1, 117, 1, 24, []byte{0, 0}, 35),
		undoOf(198, 1, 150, 0, 16, []byte{0}, 0),
		endOf(245, 1, 198),
	}
}

// roll calls Roll, and looks that all is zero beside an error.
func (x *world) roll(birth, pick int) (int, api.Errno) {
	x.t.Helper()
	n, e := back.Roll(x.l, x.p, x.b, x.r, birth, pick)
	if e != api.OK && n != 0 {
		x.t.Errorf("Roll(%d): %d beside %d", birth, n, e)
	}
	return n, e
}

func (x *world) rolls(birth, want int) {
	x.t.Helper()
	if n, e := x.roll(birth, 0); n != want || e != api.OK {
		x.t.Errorf("Roll(%d): %d, %d, want %d, OK", birth, n, e, want)
	}
}

func (x *world) fails(birth int, want api.Errno) {
	x.t.Helper()
	if _, e := x.roll(birth, 0); e != want {
		x.t.Errorf("Roll(%d): %d, want %d", birth, e, want)
	}
}

// line is a record of the log, with its LSN.
type line struct {
	lsn int
	r   api.Record
}

func beginOf(lsn, id int) line { return line{lsn, api.Record{Kind: api.KBegin, Id: id}} }

func updateOf(lsn, birth, prev, number, from int, before, after []byte) line {
	return line{lsn, api.Record{Kind: api.KUpdate, Birth: birth, Prev: prev, Page: number, From: from, Before: before, After: after}}
}

func undoOf(lsn, birth, prev, number, from int, after []byte, next int) line {
	return line{lsn, api.Record{Kind: api.KUndo, Birth: birth, Prev: prev, Page: number, From: from, After: after, Next: next}}
}

func abortOf(lsn, birth, prev int) line {
	return line{lsn, api.Record{Kind: api.KAbort, Birth: birth, Prev: prev}}
}

func endOf(lsn, birth, prev int) line {
	return line{lsn, api.Record{Kind: api.KEnd, Birth: birth, Prev: prev}}
}

func linesOf(l *wal.Log) []line {
	var all []line
	for lsn, r := range l.All() {
		all = append(all, line{lsn, r})
	}
	return all
}

// sameLine holds two lines against each other: a list of no item may be nil.
func sameLine(a, b line) bool {
	alike := bytes.Equal(a.r.Before, b.r.Before) && bytes.Equal(a.r.After, b.r.After) && len(a.r.Rows) == len(b.r.Rows) && len(a.r.Dirty) == len(b.r.Dirty)
	for _, r := range []*api.Record{&a.r, &b.r} {
		r.Before, r.After, r.Rows, r.Dirty = nil, nil, nil, nil
	}
	return alike && reflect.DeepEqual(a, b)
}

func sameLines(a, b []line) bool {
	if len(a) != len(b) {
		return false
	}
	for i := range a {
		if !sameLine(a[i], b[i]) {
			return false
		}
	}
	return true
}

func (x *world) wantLog(want ...line) {
	x.t.Helper()
	if got := linesOf(x.l); !sameLines(got, want) {
		x.t.Errorf("the log: %v, want %v", got, want)
	}
}

// wantMore looks at what was appended behind those that there were.
func (x *world) wantMore(were []line, more ...line) {
	x.t.Helper()
	x.wantLog(append(were[:len(were):len(were)], more...)...)
}

func (x *world) wantEnd(want int) {
	x.t.Helper()
	if x.l.End() != want {
		x.t.Errorf("End: %d, want %d", x.l.End(), want)
	}
}

func (x *world) wantRows(want ...api.Row) {
	x.t.Helper()
	if got := x.b.Rows(); len(got)+len(want) > 0 && !reflect.DeepEqual(got, want) {
		x.t.Errorf("rows: %v, want %v", got, want)
	}
}

func (x *world) wantKept(birth, of, all int) {
	x.t.Helper()
	if x.r.Of(birth) != of || x.r.Kept() != all {
		x.t.Errorf("%d keeps %d, all keep %d, want %d, %d", birth, x.r.Of(birth), x.r.Kept(), of, all)
	}
}

// page gives a page as it is: in its frame, or else on the disk.
func (x *world) page(number int) []byte {
	if b, is := x.p.Look(number); is {
		return b
	}
	return x.d.Image().Pages[number]
}

func (x *world) pages() [][]byte {
	var all [][]byte
	for n := range x.s.shape.Pages {
		all = append(all, x.page(n))
	}
	return all
}

func (x *world) wantPage(number int, want []byte) {
	x.t.Helper()
	if got := x.page(number); !bytes.Equal(got, want) {
		x.t.Errorf("page %d: % x, want % x", number, got, want)
	}
}

// sheet lays out a right page by hand, with the library's sum.
func sheet(number, lsn int, slots ...byte) []byte {
	b := binary.LittleEndian.AppendUint64(nil, uint64(lsn))
	b = binary.LittleEndian.AppendUint32(b, uint32(number))
	rest := binary.LittleEndian.AppendUint64(bytes.Clone(slots), uint64(lsn))
	sum := crc32.ChecksumIEEE(append(bytes.Clone(b), rest...))
	b = binary.LittleEndian.AppendUint32(b, sum)
	return append(b, rest...)
}

// slotsWith are the bytes of so many slots: zeros, but for what stands at a place of the page.
func slotsWith(slots, from int, b ...byte) []byte {
	all := make([]byte, 16*slots)
	copy(all[from-16:], b)
	return all
}

func slotsOf(b []byte) []byte { return b[16 : len(b)-8] }

func lsnOf(b []byte) int { return int(binary.LittleEndian.Uint64(b)) }

// pins tells how often a page is pinned, and leaves it so: a page that is pinned refuses bytes of a wrong length by another error than one that is not.
func (x *world) pins(number int) int {
	x.t.Helper()
	n := 0
	for x.p.Change(number, nil, 0) == api.ErrBytes {
		x.p.Unpin(number)
		n++
	}
	for range n {
		if _, e := x.p.Pin(number, 0); e != api.OK {
			x.t.Fatalf("Pin: %d", e)
		}
	}
	return n
}

func (x *world) wantPins(want ...int) {
	x.t.Helper()
	for number, n := range want {
		if got := x.pins(number); got != n {
			x.t.Errorf("page %d is pinned %d times, want %d", number, got, n)
		}
	}
}

// acts looks how many acts a call takes.
func (x *world) acts(want int, call func()) {
	x.t.Helper()
	n := x.d.Acts()
	call()
	if x.d.Acts()-n != want {
		x.t.Errorf("%d acts, want %d", x.d.Acts()-n, want)
	}
}

// state is all that a refused call leaves as it is.
type state struct {
	lines        []line
	end, flushed int
	rows         []api.Row
	kept         int
	keeps        [][2]int
	pages        [][]byte
	held         []int
	dirty        []api.Rec
	acts         int
}

func (x *world) state() state {
	s := state{
		lines: linesOf(x.l), end: x.l.End(), flushed: x.l.Flushed(), rows: x.b.Rows(), kept: x.r.Kept(),
		pages: x.pages(), held: x.p.Held(), dirty: x.p.Dirty(), acts: x.d.Acts(),
	}
	for _, r := range s.rows {
		s.keeps = append(s.keeps, [2]int{r.Birth, x.r.Of(r.Birth)})
	}
	return s
}

// refused looks that Roll answers that error, and that nothing has changed.
func (x *world) refused(birth int, want api.Errno) {
	x.t.Helper()
	was := x.state()
	x.fails(birth, want)
	if now := x.state(); !reflect.DeepEqual(now, was) {
		x.t.Errorf("Roll(%d): refused, and yet %v became %v", birth, was, now)
	}
}
