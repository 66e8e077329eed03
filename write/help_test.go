package write_test

import (
	"bytes"
	"encoding/binary"
	"hash/crc32"
	"math"
	"reflect"
	"testing"

	"tidemark/api"
	"tidemark/disk"
	"tidemark/lock"
	"tidemark/pool"
	"tidemark/room"
	"tidemark/table"
	"tidemark/wal"
	"tidemark/write"
)

// setup is what a Writer is made on; area is the Room's, base the log's.
type setup struct {
	shape                     api.Shape
	frames, table, keys, area int
	base                      int
}

// small is the chapter's examples' own; wide is one in which nothing is scarce.
func small() setup {
	return setup{shape: api.Shape{Pages: 2, Slots: 2, Log: 1024}, frames: 2, table: 2, keys: 100, area: 1024}
}

func wide() setup {
	return setup{shape: api.Shape{Pages: 3, Slots: 2, Log: 65536}, frames: 2, table: 8, keys: 1 << 20, area: 65536}
}

// world is a Writer with all that it was given.
type world struct {
	t *testing.T
	s setup
	d *disk.Disk
	l *wal.Log
	p *pool.Pool
	k *lock.Locks
	b *table.Table
	r *room.Room
	w *write.Writer
}

func made(t *testing.T, s setup) *world {
	t.Helper()
	d, e := disk.New(s.shape)
	ok(t, "disk.New", e)
	return on(t, d, s)
}

// on gives a Writer on a disk.
func on(t *testing.T, d *disk.Disk, s setup) *world {
	t.Helper()
	l, e := wal.Open(d, s.base)
	ok(t, "wal.Open", e)
	p, e := pool.New(d, l, s.frames)
	ok(t, "pool.New", e)
	b, e := table.New(s.table)
	ok(t, "table.New", e)
	x := &world{t: t, s: s, d: d, l: l, p: p, k: lock.New(), b: b, r: room.New(s.area)}
	x.w = write.New(x.l, x.p, x.k, x.b, x.r, s.shape.Pages, s.keys)
	if x.w == nil {
		t.Fatal("New gives nil")
	}
	return x
}

// holding gives a Writer on a disk on which these pages last.
func holding(t *testing.T, s setup, pages ...[]byte) *world {
	t.Helper()
	d, e := disk.New(s.shape)
	ok(t, "disk.New", e)
	m := d.Image()
	copy(m.Pages, pages)
	d, e = disk.Load(s.shape, m)
	ok(t, "disk.Load", e)
	return on(t, d, s)
}

func ok(t *testing.T, what string, e api.Errno) {
	t.Helper()
	if e != api.OK {
		t.Fatalf("%s: %d", what, e)
	}
}

// used are the bytes of a slot with a key and a value; free are a free one's.
func used(key int, v uint64) []byte {
	b := []byte{1, 0, 0, 0}
	b = binary.LittleEndian.AppendUint32(b, uint32(key))
	return binary.LittleEndian.AppendUint64(b, v)
}

func free() []byte { return make([]byte, 16) }

// sheet lays out a right page by hand, with the library's sum.
func sheet(number, lsn int, slots ...[]byte) []byte {
	b := binary.LittleEndian.AppendUint64(nil, uint64(lsn))
	b = binary.LittleEndian.AppendUint32(b, uint32(number))
	rest := binary.LittleEndian.AppendUint64(bytes.Join(slots, nil), uint64(lsn))
	sum := crc32.ChecksumIEEE(append(bytes.Clone(b), rest...))
	b = binary.LittleEndian.AppendUint32(b, sum)
	return append(b, rest...)
}

// torn is a page that is not right: its sum is another.
func torn(number int, slots ...[]byte) []byte {
	b := sheet(number, 0, slots...)
	b[12] ^= 1
	return b
}

// The calls; each looks that all is zero beside an error.

func (x *world) begin(id int) (int, api.Errno) {
	x.t.Helper()
	birth, e := x.w.Begin(id)
	if e != api.OK && birth != 0 {
		x.t.Errorf("Begin(%d): %d beside %d", id, birth, e)
	}
	return birth, e
}

func (x *world) get(id, key, pick int) (uint64, bool, api.Errno) {
	x.t.Helper()
	v, there, e := x.w.Get(id, key, pick)
	if e != api.OK && (v != 0 || there) || !there && v != 0 {
		x.t.Errorf("Get(%d, %d): %d, %v beside %d", id, key, v, there, e)
	}
	return v, there, e
}

func (x *world) delete(id, key, pick int) (bool, api.Errno) {
	x.t.Helper()
	there, e := x.w.Delete(id, key, pick)
	if e != api.OK && there {
		x.t.Errorf("Delete(%d, %d): true beside %d", id, key, e)
	}
	return there, e
}

// The same with what is wanted.

func (x *world) begins(id, want int) {
	x.t.Helper()
	if birth, e := x.begin(id); birth != want || e != api.OK {
		x.t.Errorf("Begin(%d): %d, %d, want %d, OK", id, birth, e, want)
	}
}

func (x *world) gets(id, key int, want uint64, has bool) {
	x.t.Helper()
	if v, there, e := x.get(id, key, 0); v != want || there != has || e != api.OK {
		x.t.Errorf("Get(%d, %d): %d, %v, %d, want %d, %v, OK", id, key, v, there, e, want, has)
	}
}

func (x *world) puts(id, key int, v uint64) {
	x.t.Helper()
	if e := x.w.Put(id, key, v, 0); e != api.OK {
		x.t.Errorf("Put(%d, %d, %d): %d, want OK", id, key, v, e)
	}
}

func (x *world) deletes(id, key int, has bool) {
	x.t.Helper()
	if there, e := x.delete(id, key, 0); there != has || e != api.OK {
		x.t.Errorf("Delete(%d, %d): %v, %d, want %v, OK", id, key, there, e, has)
	}
}

func (x *world) commits(id int) {
	x.t.Helper()
	if e := x.w.Commit(id); e != api.OK {
		x.t.Errorf("Commit(%d): %d, want OK", id, e)
	}
}

// asking is one of the calls that ask for a page.
type asking struct {
	name string
	do   func(x *world, id, key, pick int) api.Errno
}

func askings() []asking {
	return []asking{
		{"Get", func(x *world, id, key, pick int) api.Errno {
			_, _, e := x.get(id, key, pick)
			return e
		}},
		{"Put", func(x *world, id, key, pick int) api.Errno { return x.w.Put(id, key, 5, pick) }},
		{"Delete", func(x *world, id, key, pick int) api.Errno {
			_, e := x.delete(id, key, pick)
			return e
		}},
	}
}

// line is a record of the log, with its LSN.
type line struct {
	lsn int
	r   api.Record
}

func (x *world) lines() []line {
	var all []line
	for lsn, r := range x.l.All() {
		all = append(all, line{lsn, r})
	}
	return all
}

// sameLine holds two lines against each other: a list of no item may be nil.
func sameLine(a, b line) bool {
	alike := bytes.Equal(a.r.Before, b.r.Before) && bytes.Equal(a.r.After, b.r.After) && len(a.r.Rows)+len(b.r.Rows)+len(a.r.Dirty)+len(b.r.Dirty) == 0
	for _, r := range []*api.Record{&a.r, &b.r} {
		r.Before, r.After, r.Rows, r.Dirty = nil, nil, nil, nil
	}
	return alike && reflect.DeepEqual(a, b)
}

func (x *world) wantLog(want ...line) {
	x.t.Helper()
	got := x.lines()
	if len(got) != len(want) {
		x.t.Errorf("the log has %d records, want %d: %v", len(got), len(want), got)
		return
	}
	for i := range want {
		if !sameLine(got[i], want[i]) {
			x.t.Errorf("the log's record %d: %v, want %v", i, got[i], want[i])
		}
	}
}

// wantLast looks at the log's last record.
func (x *world) wantLast(want line) {
	x.t.Helper()
	if got := x.lines(); len(got) == 0 || !sameLine(got[len(got)-1], want) {
		x.t.Errorf("the log's records: %v, want as the last one %v", got, want)
	}
}

func (x *world) wantRows(want ...api.Row) {
	x.t.Helper()
	if got := x.b.Rows(); len(got)+len(want) > 0 && !reflect.DeepEqual(got, want) {
		x.t.Errorf("rows: %v, want %v", got, want)
	}
}

func (x *world) wantKept(birth, of, all int) {
	x.t.Helper()
	if x.r.Of(birth) != of || x.r.Kept() != all {
		x.t.Errorf("%d keeps %d, all keep %d, want %d, %d", birth, x.r.Of(birth), x.r.Kept(), of, all)
	}
}

func (x *world) wantHolder(number, want int) {
	x.t.Helper()
	if got := x.k.Holder(number); got != want {
		x.t.Errorf("page %d is held by %d, want %d", number, got, want)
	}
}

// page gives a page as it is: in its frame, or else on the disk.
func (x *world) page(number int) []byte {
	if b, is := x.p.Look(number); is {
		return b
	}
	return x.d.Image().Pages[number]
}

func (x *world) wantPage(number int, want []byte) {
	x.t.Helper()
	if got := x.page(number); !bytes.Equal(got, want) {
		x.t.Errorf("page %d: % x, want % x", number, got, want)
	}
}

// acts looks how many acts a call takes.
func (x *world) acts(what string, want int, call func()) {
	x.t.Helper()
	n := x.d.Acts()
	call()
	if x.d.Acts()-n != want {
		x.t.Errorf("%s: %d acts, want %d", what, x.d.Acts()-n, want)
	}
}

// state is all that a refused call leaves as it is; which pages are in frames, and which are dirty, is not among it.
type state struct {
	lines      []line
	bytes, end int
	rows       []api.Row
	kept       int
	keeps      [][2]int
	holders    [16]int
	pages      [][]byte
}

func (x *world) state() state {
	s := state{lines: x.lines(), bytes: x.l.Bytes(), end: x.l.End(), rows: x.b.Rows(), kept: x.r.Kept()}
	for _, r := range s.rows {
		s.keeps = append(s.keeps, [2]int{r.Birth, x.r.Of(r.Birth)})
	}
	for n := range s.holders {
		s.holders[n] = x.k.Holder(n)
	}
	for n := range x.s.shape.Pages {
		s.pages = append(s.pages, x.page(n))
	}
	return s
}

// refused looks that a call answers that error, and that nothing has changed: P19.7.
func (x *world) refused(what string, want api.Errno, call func() api.Errno) {
	x.t.Helper()
	was := x.state()
	if e := call(); e != want {
		x.t.Errorf("%s: %d, want %d", what, e, want)
	}
	if now := x.state(); !reflect.DeepEqual(now, was) {
		x.t.Errorf("%s: refused, and yet %v became %v", what, was, now)
	}
}

func (x *world) noBegin(id int, want api.Errno) {
	x.t.Helper()
	x.acts("a Begin that is refused", 0, func() {
		x.t.Helper()
		x.refused("Begin", want, func() api.Errno {
			_, e := x.begin(id)
			return e
		})
	})
}

// noIds lie just beside what may be, where a narrower number would fold back on it, and at the ends of int.
func noIds() []int {
	return []int{0, -1, -3, -64, 65, 67, 128, 256 + 3, 1<<16 + 3, 1<<32 + 3, math.MaxInt, math.MinInt, math.MinInt + 3}
}

// noKeys are keys that may not be, of so many.
func noKeys(keys int) []int {
	return []int{-1, -2, -keys, keys, keys + 1, keys + 2, 1<<32 + 1, 1<<33 + 2, 1 << 60, math.MaxInt, math.MinInt, math.MinInt + 1}
}

func beginOf(lsn, id int) line { return line{lsn, api.Record{Kind: api.KBegin, Id: id}} }

func updateOf(lsn, birth, prev, number, from int, before, after []byte) line {
	return line{lsn, api.Record{Kind: api.KUpdate, Birth: birth, Prev: prev, Page: number, From: from, Before: before, After: after}}
}

func commitOf(lsn, birth, prev int) line {
	return line{lsn, api.Record{Kind: api.KCommit, Birth: birth, Prev: prev}}
}

func endOf(lsn, birth, prev int) line {
	return line{lsn, api.Record{Kind: api.KEnd, Birth: birth, Prev: prev}}
}

// newWriter gives another Writer on what a world has.
func newWriter(x *world, pages, keys int) *write.Writer {
	return write.New(x.l, x.p, x.k, x.b, x.r, pages, keys)
}
