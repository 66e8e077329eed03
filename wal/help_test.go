package wal_test

import (
	"bytes"
	"encoding/binary"
	"hash/crc32"
	"math"
	"reflect"
	"slices"
	"testing"

	"tidemark/api"
	"tidemark/disk"
	"tidemark/wal"
)

const (
	mostLsn  = 1 << 60
	mostBase = mostLsn - 131072
)

// u8, u16 and u64 lay numbers by hand.
func u8(b []byte, n int) []byte  { return append(b, byte(n)) }
func u16(b []byte, n int) []byte { return binary.LittleEndian.AppendUint16(b, uint16(n)) }
func u64(b []byte, n int) []byte { return binary.LittleEndian.AppendUint64(b, uint64(n)) }

// body lays a record out by hand.
func body(r api.Record) []byte {
	b := u64(u64(u8(nil, r.Kind), r.Birth), r.Prev)
	switch r.Kind {
	case 1:
		b = u8(b, r.Id)
	case 2:
		b = u16(u16(u8(b, r.Page), r.From), len(r.After))
		b = append(append(b, r.Before...), r.After...)
	case 3:
		b = u16(u16(u8(b, r.Page), r.From), len(r.After))
		b = u64(append(b, r.After...), r.Next)
	case 7:
		b = u8(b, len(r.Rows))
		for _, w := range r.Rows {
			b = u64(u64(u8(u8(u64(b, w.Birth), w.Id), w.State), w.Last), w.Next)
		}
		b = u8(b, len(r.Dirty))
		for _, d := range r.Dirty {
			b = u64(u8(b, d.Page), d.Lsn)
		}
	}
	return b
}

// framed lays a frame out by hand, with the library's sum.
func framed(lsn int, body []byte) []byte {
	b := binary.LittleEndian.AppendUint32(nil, uint32(len(body)))
	b = append(u64(b, lsn), body...)
	return binary.LittleEndian.AppendUint32(b, crc32.ChecksumIEEE(b))
}

var begin, commit = api.Record{Kind: 1, Id: 3}, api.Record{Kind: 4, Birth: 1, Prev: 1}

// update gives an update of n bytes: its frame has 38 + 2 n.
func update(n int) api.Record {
	return api.Record{Kind: 2, Birth: 1, Prev: 1, Page: 2, From: 16, Before: bytes.Repeat([]byte{5}, n), After: bytes.Repeat([]byte{9}, n)}
}

// some gives right records of all kinds, the shortest and the longest among them.
func some() []api.Record {
	var rows []api.Row
	for i := range 8 {
		rows = append(rows, api.Row{Birth: 1 + 300*i, Id: 64 - i, State: 1 + i%2, Last: 9000 + i, Next: i * 77})
	}
	var dirty []api.Rec
	for i := range 16 {
		dirty = append(dirty, api.Rec{Page: i, Lsn: 70000 - i})
	}
	return []api.Record{
		begin, update(1), {Kind: 7}, {Kind: 1, Id: 64},
		{Kind: 3, Birth: 1, Prev: 75, Page: 2, From: 143, After: []byte{9}, Next: 35},
		{Kind: 5, Birth: 1, Prev: mostLsn},
		{Kind: 7, Rows: rows, Dirty: dirty},
		{Kind: 3, Birth: 1, Prev: 75, From: 16, After: bytes.Repeat([]byte{6}, 128)},
		{Kind: 6, Birth: mostLsn, Prev: 1},
		update(128), commit,
	}
}

// wrong gives records that are not right.
func wrong() []api.Record {
	return []api.Record{
		{}, {Kind: 9}, {Kind: 8}, {Kind: -1}, {Kind: 1}, {Kind: 1, Id: 65}, {Kind: 1, Id: 3, Birth: 1},
		{Kind: 4, Birth: 1}, {Kind: 4, Prev: 1}, {Kind: 5, Birth: mostLsn + 1, Prev: 1}, {Kind: 6, Birth: 1, Prev: 1, After: []byte{1}},
		{Kind: 2, Birth: 1, Prev: 1, From: 16}, {Kind: 2, Birth: 1, Prev: 1, From: 16, Before: []byte{1}, After: []byte{1}},
		{Kind: 3, Birth: 1, Prev: 1, From: 144, After: []byte{1}}, {Kind: 7, Dirty: make([]api.Rec, 17)}, {Kind: 7, Rows: make([]api.Row, 9)},
		{Kind: math.MaxInt}, {Kind: math.MinInt}, {Kind: 257, Id: 3},
	}
}

// same tells whether two records are alike; a list of no item is as none.
func same(a, b api.Record) bool {
	return a.Kind == b.Kind && a.Birth == b.Birth && a.Prev == b.Prev && a.Id == b.Id && a.Page == b.Page && a.From == b.From && a.Next == b.Next &&
		bytes.Equal(a.Before, b.Before) && bytes.Equal(a.After, b.After) && slices.Equal(a.Rows, b.Rows) && slices.Equal(a.Dirty, b.Dirty)
}

// model is what a log must be: its records and their frames, laid out by hand.
type model struct {
	base   int
	area   int
	lsns   []int
	recs   []api.Record
	frames []byte
	onDisk int
}

func modelOf(base, area int, recs ...api.Record) *model {
	m := &model{base: base, area: area}
	for _, r := range recs {
		m.add(r)
	}
	return m
}

func (m *model) end() int     { return m.base + len(m.frames) + 1 }
func (m *model) flushed() int { return m.base + m.onDisk + 1 }

// fits tells whether a right record may be appended.
func (m *model) fits(r api.Record) bool { return len(m.frames)+len(body(r))+16 <= m.area }

func (m *model) add(r api.Record) {
	m.lsns, m.recs = append(m.lsns, m.end()), append(m.recs, r)
	m.frames = append(m.frames, framed(m.end(), body(r))...)
}

// first gives the model of the log that has the first bytes of this one's frames, all on the disk.
func (m *model) first(n int) *model {
	f := modelOf(m.base, m.area)
	for i, r := range m.recs {
		if m.lsns[i]-m.base-1+len(body(r))+16 <= n {
			f.add(r)
		}
	}
	f.onDisk = len(f.frames)
	return f
}

// saved is the same with all of its records on the disk.
func (m *model) saved() *model { return m.first(len(m.frames)) }

func blank(t *testing.T, area int) *disk.Disk { return withLog(t, area, nil) }

// withLog gives a disk with that log, all of which lasts.
func withLog(t *testing.T, area int, log []byte) *disk.Disk {
	t.Helper()
	m := api.Image{Pages: [][]byte{make([]byte, 40)}, Pair: make([]byte, 56), Log: log, Masters: [2][]byte{make([]byte, 40), make([]byte, 40)}}
	d, e := disk.Load(api.Shape{Pages: 1, Slots: 1, Log: area}, m)
	if e != api.OK {
		t.Fatalf("disk.Load: %d", e)
	}
	return d
}

func opened(t *testing.T, d *disk.Disk, base int) *wal.Log {
	t.Helper()
	l, e := wal.Open(d, base)
	if e != api.OK || l == nil {
		t.Fatalf("Open(%d): %d", base, e)
	}
	return l
}

func wantErrno(t *testing.T, what string, got, want api.Errno) {
	t.Helper()
	if got != want {
		t.Errorf("%s: error %d, want %d", what, got, want)
	}
}

// wantActs looks how many acts a call takes.
func wantActs(t *testing.T, what string, d *disk.Disk, want int, call func()) {
	t.Helper()
	n := d.Acts()
	call()
	if d.Acts()-n != want {
		t.Errorf("%s: %d acts, want %d", what, d.Acts()-n, want)
	}
}

// wantDisk looks at the disk's log, and how much of it lasts; the rest of the disk must be blank.
func wantDisk(t *testing.T, what string, d *disk.Disk, log []byte, lasts int) {
	t.Helper()
	if !bytes.Equal(d.Image().Log, log) || !bytes.Equal(d.Lasts().Log, log[:lasts]) {
		t.Errorf("%s: the log %x, of which %x lasts, want %x, %d bytes", what, d.Image().Log, d.Lasts().Log, log, lasts)
	}
	for _, m := range []api.Image{d.Image(), d.Lasts()} {
		all := slices.Concat(m.Pages[0], m.Pair, m.Masters[0], m.Masters[1])
		if !bytes.Equal(all, make([]byte, len(all))) {
			t.Errorf("%s: what is not the log is written: %x", what, all)
		}
	}
}

func wantTold(t *testing.T, what string, l *wal.Log, m *model) {
	t.Helper()
	if l.Base() != m.base || l.Bytes() != len(m.frames) || l.End() != m.end() || l.Flushed() != m.flushed() {
		t.Errorf("%s: Base %d, Bytes %d, End %d, Flushed %d, want %d, %d, %d, %d", what,
			l.Base(), l.Bytes(), l.End(), l.Flushed(), m.base, len(m.frames), m.end(), m.flushed())
	}
}

func wantRead(t *testing.T, what string, l *wal.Log, m *model, lsn int) {
	t.Helper()
	r, e := l.Read(lsn)
	i := slices.Index(m.lsns, lsn)
	if i >= 0 && (e != api.OK || !same(r, m.recs[i])) {
		t.Errorf("%s: Read(%d): %+v, %d, want %+v", what, lsn, r, e, m.recs[i])
	}
	if i < 0 && (e != api.ErrLsn || !reflect.DeepEqual(r, api.Record{})) {
		t.Errorf("%s: Read(%d): %+v, %d, want ErrLsn", what, lsn, r, e)
	}
}

func wantAll(t *testing.T, what string, l *wal.Log, m *model) {
	t.Helper()
	all := l.All()
	if all == nil {
		t.Fatalf("%s: All is nil", what)
	}
	k := 0
	for lsn, r := range all {
		if k >= len(m.lsns) || lsn != m.lsns[k] || !same(r, m.recs[k]) {
			t.Errorf("%s: All's record number %d: %d, %+v, want one of %+v at %v", what, k, lsn, r, m.recs, m.lsns)
			return
		}
		k++
	}
	if k != len(m.lsns) {
		t.Errorf("%s: All gives %d records, want %d", what, k, len(m.lsns))
	}
}

// wantLog looks at all that a log tells; none of it is an act.
func wantLog(t *testing.T, what string, d *disk.Disk, l *wal.Log, m *model) {
	t.Helper()
	wantActs(t, what, d, 0, func() {
		wantTold(t, what, l, m)
		wantAll(t, what, l, m)
		for _, lsn := range m.lsns {
			wantRead(t, what, l, m, lsn)
			wantRead(t, what, l, m, lsn+1)
			wantRead(t, what, l, m, lsn-1)
		}
		for _, lsn := range []int{math.MinInt, -1, 0, 1, m.base, m.base + 1, m.flushed(), m.end(), m.end() + 1, mostLsn, math.MaxInt} {
			wantRead(t, what, l, m, lsn)
		}
	})
}

// appended appends right records that fit, to the log and to the model.
func appended(t *testing.T, d *disk.Disk, l *wal.Log, m *model, recs ...api.Record) {
	t.Helper()
	for _, r := range recs {
		want := m.end()
		wantActs(t, "Append", d, 0, func() {
			if lsn, e := l.Append(r); lsn != want || e != api.OK {
				t.Errorf("Append(%+v): %d, %d, want %d", r, lsn, e, want)
			}
		})
		m.add(r)
	}
}

func wantRefused(t *testing.T, l *wal.Log, r api.Record, want api.Errno) {
	t.Helper()
	if lsn, e := l.Append(r); lsn != 0 || e != want {
		t.Errorf("Append(%+v): %d, %d, want 0, %d", r, lsn, e, want)
	}
}

// flushed flushes all, and looks how many acts that takes.
func flushed(t *testing.T, d *disk.Disk, l *wal.Log, m *model, acts int) {
	t.Helper()
	wantActs(t, "Flush", d, acts, func() { wantErrno(t, "Flush", l.Flush(math.MaxInt), api.OK) })
	m.onDisk = len(m.frames)
	wantDisk(t, "Flush", d, m.frames, len(m.frames))
	wantLog(t, "Flush", d, l, m)
}
