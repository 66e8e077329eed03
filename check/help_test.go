package check_test

import (
	"bytes"
	"encoding/binary"
	"hash/crc32"
	"reflect"
	"testing"

	"tidemark/api"
	"tidemark/back"
	"tidemark/check"
	"tidemark/disk"
	"tidemark/lock"
	"tidemark/master"
	"tidemark/pool"
	"tidemark/room"
	"tidemark/table"
	"tidemark/wal"
	"tidemark/write"
)

// State is short for what the tests are full of.
type State = master.State

// setup is what a Checker is made on; area is the Room's; the master says turn and base.
type setup struct {
	shape               api.Shape
	frames, table, area int
	turn, base          int
}

// small is the chapter's examples' own; wide is one in which nothing is scarce.
func small() setup {
	return setup{shape: api.Shape{Pages: 2, Slots: 2, Log: 1024}, frames: 2, table: 2, area: 1024, turn: 1}
}

func wide() setup {
	return setup{shape: api.Shape{Pages: 16, Slots: 2, Log: 65536}, frames: 16, table: 8, area: 65536, turn: 1}
}

// world is a Checker with all that it was given, and a Writer beside it.
type world struct {
	t *testing.T
	s setup
	d *disk.Disk
	l *wal.Log
	p *pool.Pool
	k *lock.Locks
	b *table.Table
	r *room.Room
	w *write.Writer
	c *check.Checker
}

func made(t *testing.T, s setup) *world {
	t.Helper()
	d, e := disk.New(s.shape)
	ok(t, "disk.New", e)
	_, e = master.Next(d, State{Turn: s.turn - 1, Base: s.base})
	ok(t, "master.Next", e)
	return on(t, d, s)
}

// on gives a Checker on a disk.
func on(t *testing.T, d *disk.Disk, s setup) *world {
	t.Helper()
	newest, there, e := master.Newest(d)
	if !there || e != api.OK {
		t.Fatalf("master.Newest: %v, %d", there, e)
	}
	l, e := wal.Open(d, newest.Base)
	ok(t, "wal.Open", e)
	p, e := pool.New(d, l, s.frames)
	ok(t, "pool.New", e)
	b, e := table.New(s.table)
	ok(t, "table.New", e)
	x := &world{t: t, s: s, d: d, l: l, p: p, k: lock.New(), b: b, r: room.New(s.area)}
	x.w = write.New(l, p, x.k, b, x.r, s.shape.Pages, 1000)
	x.knows(newest)
	return x
}

// knows makes the Checker anew, with a State that it is told.
func (x *world) knows(s State) {
	x.t.Helper()
	acts := x.d.Acts()
	x.c = check.New(x.d, x.l, x.p, x.b, x.r, s)
	if x.c == nil || x.c.State() != s || x.d.Acts() != acts {
		x.t.Fatalf("New: State %v, want %v; %d acts", x.c.State(), s, x.d.Acts()-acts)
	}
}

func ok(t *testing.T, what string, e api.Errno) {
	t.Helper()
	if e != api.OK {
		t.Fatalf("%s: %d", what, e)
	}
}

// begin, put, commit and abort are layers 19's and 20's.

func (x *world) begin(id int) int {
	x.t.Helper()
	birth, e := x.w.Begin(id)
	ok(x.t, "Begin", e)
	return birth
}

func (x *world) put(id, key int, v uint64) int {
	x.t.Helper()
	lsn := x.l.End()
	ok(x.t, "Put", x.w.Put(id, key, v, 0))
	return lsn
}

func (x *world) commit(id int) {
	x.t.Helper()
	ok(x.t, "Commit", x.w.Commit(id))
}

func (x *world) abort(id int) {
	x.t.Helper()
	row, _ := x.b.ById(id)
	_, e := back.Roll(x.l, x.p, x.b, x.r, row.Birth, 0)
	ok(x.t, "Roll", e)
	x.k.Drop(row.Birth)
}

// checkpoint calls Checkpoint, and looks that all is zero beside an error.
func (x *world) checkpoint() (int, api.Errno) {
	x.t.Helper()
	lsn, e := x.c.Checkpoint()
	if e != api.OK && lsn != 0 {
		x.t.Errorf("Checkpoint: %d beside %d", lsn, e)
	}
	return lsn, e
}

// checks looks at an OK Checkpoint: where its record is, what it has, and what the master says then.
func (x *world) checks(rows []api.Row, dirty []api.Rec) int {
	x.t.Helper()
	was, were, at := x.c.State(), linesOf(x.l), x.l.End()
	lsn, e := x.checkpoint()
	if lsn != at || e != api.OK {
		x.t.Fatalf("Checkpoint: %d, %d, want %d, OK", lsn, e, at)
	}
	x.wantLog(append(were, line{at, api.Record{Kind: api.KCheck, Rows: rows, Dirty: dirty}})...)
	if want := at + 35 + 26*len(rows) + 9*len(dirty); x.l.End() != want || x.l.Flushed() != want {
		x.t.Errorf("End %d, Flushed %d, want %d", x.l.End(), x.l.Flushed(), want)
	}
	x.wantState(State{Turn: was.Turn + 1, Base: x.l.Base(), Check: at})
	return at
}

// renews looks at an OK Renew.
func (x *world) renews() {
	x.t.Helper()
	was, pages, held, b := x.c.State(), x.pages(), x.p.Held(), x.l.End()-1
	if e := x.c.Renew(); e != api.OK {
		x.t.Fatalf("Renew: %d", e)
	}
	x.wantState(State{Turn: was.Turn + 1, Base: b})
	x.wantLog()
	if x.l.Base() != b || x.l.End() != b+1 || x.l.Bytes() != 0 || x.d.LogLen() != 0 {
		x.t.Errorf("base %d, want %d; End %d, %d bytes, %d on the disk", x.l.Base(), b, x.l.End(), x.l.Bytes(), x.d.LogLen())
	}
	if len(x.p.Dirty()) != 0 || !reflect.DeepEqual(x.p.Held(), held) {
		x.t.Errorf("dirty %v, held %v, want none, %v", x.p.Dirty(), x.p.Held(), held)
	}
	if !reflect.DeepEqual(x.pages(), pages) || !reflect.DeepEqual(x.d.Lasts().Pages, pages) {
		x.t.Errorf("the pages are %v, on the disk %v, want %v", x.pages(), x.d.Lasts().Pages, pages)
	}
	if !reflect.DeepEqual(x.d.Lasts(), x.d.Image()) {
		x.t.Error("something is loose")
	}
}

// wantState looks at what the Checker says, and at the bytes of the master that lasts.
func (x *world) wantState(want State) {
	x.t.Helper()
	if got := x.c.State(); got != want {
		x.t.Errorf("State: %v, want %v", got, want)
	}
	if got := x.d.Lasts().Masters[want.Turn%2]; !bytes.Equal(got, masterOf(want)) {
		x.t.Errorf("the master %d: % x, want % x", want.Turn%2, got, masterOf(want))
	}
}

// masterOf lays out a master by hand, with the library's sum.
func masterOf(s State) []byte {
	b := binary.LittleEndian.AppendUint64(nil, uint64(s.Turn))
	b = binary.LittleEndian.AppendUint64(b, uint64(s.Base))
	b = binary.LittleEndian.AppendUint64(b, uint64(s.Check))
	b = append(b, 0, 0, 0, 0)
	b = binary.LittleEndian.AppendUint32(b, crc32.ChecksumIEEE(b))
	return binary.LittleEndian.AppendUint64(b, uint64(s.Turn))
}

func newest(t *testing.T, d *disk.Disk) State {
	t.Helper()
	s, there, e := master.Newest(d)
	if !there || e != api.OK {
		t.Fatalf("Newest: %v, %v, %d", s, there, e)
	}
	return s
}

// line is a record of the log, with its LSN.
type line struct {
	lsn int
	r   api.Record
}

func linesOf(l *wal.Log) []line {
	var all []line
	for lsn, r := range l.All() {
		all = append(all, line{lsn, plainly(r)})
	}
	return all
}

// plainly gives a record whose empty lists are nil.
func plainly(r api.Record) api.Record {
	if len(r.Before) == 0 {
		r.Before = nil
	}
	if len(r.After) == 0 {
		r.After = nil
	}
	if len(r.Rows) == 0 {
		r.Rows = nil
	}
	if len(r.Dirty) == 0 {
		r.Dirty = nil
	}
	return r
}

func sameLines(a, b []line) bool {
	if len(a) != len(b) {
		return false
	}
	for i := range a {
		if a[i].lsn != b[i].lsn || !reflect.DeepEqual(plainly(a[i].r), plainly(b[i].r)) {
			return false
		}
	}
	return true
}

func (x *world) wantLog(want ...line) {
	x.t.Helper()
	if got := linesOf(x.l); !sameLines(got, want) {
		x.t.Errorf("the log: %v, want %v", got, want)
	}
}

// page gives a page as it is: in its frame, or else on the disk.
func (x *world) page(number int) []byte {
	if b, is := x.p.Look(number); is {
		return b
	}
	return x.d.Image().Pages[number]
}

func (x *world) pages() [][]byte {
	var all [][]byte
	for n := range x.s.shape.Pages {
		all = append(all, x.page(n))
	}
	return all
}

func slotsOf(b []byte) []byte { return b[16 : len(b)-8] }

func lsnOf(b []byte) int { return int(binary.LittleEndian.Uint64(b)) }

// acts looks how many acts a call takes.
func (x *world) acts(what string, want int, call func()) {
	x.t.Helper()
	n := x.d.Acts()
	call()
	if x.d.Acts()-n != want {
		x.t.Errorf("%s: %d acts, want %d", what, x.d.Acts()-n, want)
	}
}

// state is all that a refused call leaves as it is.
type state struct {
	says         State
	lines        []line
	end, flushed int
	base         int
	rows         []api.Row
	kept         int
	pages        [][]byte
	held         []int
	dirty        []api.Rec
	acts         int
	image, lasts api.Image
}

func (x *world) state() state {
	return state{
		says: x.c.State(), lines: linesOf(x.l), end: x.l.End(), flushed: x.l.Flushed(), base: x.l.Base(),
		rows: x.b.Rows(), kept: x.r.Kept(), pages: x.pages(), held: x.p.Held(), dirty: x.p.Dirty(),
		acts: x.d.Acts(), image: x.d.Image(), lasts: x.d.Lasts(),
	}
}

// refused looks that a call answers that error, and that nothing has changed.
func (x *world) refused(what string, want api.Errno, call func() api.Errno) {
	x.t.Helper()
	was := x.state()
	if e := call(); e != want {
		x.t.Errorf("%s: %d, want %d", what, e, want)
	}
	if now := x.state(); !reflect.DeepEqual(now, was) {
		x.t.Errorf("%s: refused, and yet %v became %v", what, was, now)
	}
}

func (x *world) noCheckpoint(want api.Errno) {
	x.t.Helper()
	x.refused("Checkpoint", want, func() api.Errno {
		_, e := x.checkpoint()
		return e
	})
}

func (x *world) noRenew(want api.Errno) {
	x.t.Helper()
	x.refused("Renew", want, x.c.Renew)
}

// pins tells how often a page is pinned, and leaves it so: a page that is pinned refuses bytes of a wrong length by another error than one that is not.
func (x *world) pins(number int) int {
	x.t.Helper()
	n := 0
	for x.p.Change(number, nil, 0) == api.ErrBytes {
		x.p.Unpin(number)
		n++
	}
	for range n {
		_, e := x.p.Pin(number, 0)
		ok(x.t, "Pin", e)
	}
	return n
}
