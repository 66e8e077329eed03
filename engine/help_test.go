package engine_test

import (
	"bytes"
	"encoding/binary"
	"hash/crc32"
	"slices"
	"testing"

	"tidemark/api"
	"tidemark/disk"
	"tidemark/engine"
	"tidemark/master"
)

// small is the chapter's examples' configuration.
func small() api.Config {
	return api.Config{Shape: api.Shape{Pages: 2, Slots: 2, Log: 1024}, Frames: 2, Table: 2, Keys: 100}
}

// wide has more pages than frames: so pages go out and come in.
func wide() api.Config {
	return api.Config{Shape: api.Shape{Pages: 6, Slots: 2, Log: 4096}, Frames: 2, Table: 4, Keys: 100}
}

func ok(t *testing.T, what string, f api.Errno) {
	t.Helper()
	if f != api.OK {
		t.Fatalf("%s: %d", what, f)
	}
}

// run is an engine whose answers are looked at as they come.
type run struct {
	t *testing.T
	e *engine.Engine
	d *disk.Disk
}

func on(t *testing.T, e *engine.Engine) *run {
	t.Helper()
	if e == nil || e.Disk() == nil {
		t.Fatal("no engine, or none on a disk")
	}
	return &run{t: t, e: e, d: e.Disk()}
}

func create(t *testing.T, c api.Config) *run {
	t.Helper()
	e, f := engine.Create(c)
	ok(t, "Create", f)
	return on(t, e)
}

// opens has Open answer OK.
func opens(t *testing.T, d *disk.Disk, c api.Config, manager int) (*run, api.Report) {
	t.Helper()
	e, r, f := engine.Open(d, c, manager)
	ok(t, "Open", f)
	x := on(t, e)
	if x.d != d {
		t.Error("Disk is another than that which was opened")
	}
	return x, r
}

// refuses has Open answer that error, and nothing beside it.
func refuses(t *testing.T, d *disk.Disk, c api.Config, manager int, want api.Errno) {
	t.Helper()
	e, r, f := engine.Open(d, c, manager)
	if e != nil || !isEmpty(r) || f != want {
		t.Errorf("Open(.., %v, %d): %v, %v, %d, want %d alone", c, manager, e != nil, r, f, want)
	}
}

func (x *run) want(what string, got, want api.Errno) {
	x.t.Helper()
	if got != want {
		x.t.Errorf("%s: %d, want %d", what, got, want)
	}
}

func (x *run) begin(id int) {
	x.t.Helper()
	x.want("Begin", x.e.Begin(id), api.OK)
}

func (x *run) put(id, key int, value uint64) {
	x.t.Helper()
	x.want("Put", x.e.Put(id, key, value, 0), api.OK)
}

func (x *run) gets(id, key int, value uint64) {
	x.t.Helper()
	if v, there, f := x.e.Get(id, key, 0); v != value || !there || f != api.OK {
		x.t.Errorf("Get(%d, %d): %d, %v, %d, want %d", id, key, v, there, f, value)
	}
}

func (x *run) getsNone(id, key int, want api.Errno) {
	x.t.Helper()
	if v, there, f := x.e.Get(id, key, 0); v != 0 || there || f != want {
		x.t.Errorf("Get(%d, %d): %d, %v, %d, want 0, false, %d", id, key, v, there, f, want)
	}
}

func (x *run) deletes(id, key int, gone bool, want api.Errno) {
	x.t.Helper()
	if g, f := x.e.Delete(id, key, 0); g != gone || f != want {
		x.t.Errorf("Delete(%d, %d): %v, %d, want %v, %d", id, key, g, f, gone, want)
	}
}

func (x *run) commit(id int) {
	x.t.Helper()
	x.want("Commit", x.e.Commit(id), api.OK)
}

func (x *run) abort(id int) {
	x.t.Helper()
	x.want("Abort", x.e.Abort(id, 0), api.OK)
}

func (x *run) dumps(want ...api.Entry) {
	x.t.Helper()
	if got, f := x.e.Dump(); f != api.OK || !slices.Equal(got, want) {
		x.t.Errorf("Dump: %v, %d, want %v", got, f, want)
	}
}

func (x *run) dumpsNone(want api.Errno) {
	x.t.Helper()
	if got, f := x.e.Dump(); f != want || len(got) != 0 {
		x.t.Errorf("Dump: %v, %d, want none, %d", got, f, want)
	}
}

func (x *run) used(bytes, kept int) {
	x.t.Helper()
	if b, k := x.e.Used(); b != bytes || k != kept {
		x.t.Errorf("Used: %d, %d, want %d, %d", b, k, bytes, kept)
	}
}

func (x *run) ids(want ...int) {
	x.t.Helper()
	if got := x.e.Ids(); !slices.Equal(got, want) {
		x.t.Errorf("Ids: %v, want %v", got, want)
	}
}

// acts has a call take so many acts.
func (x *run) acts(want int, call func()) {
	x.t.Helper()
	was := x.d.Acts()
	call()
	if got := x.d.Acts() - was; got != want {
		x.t.Errorf("%d acts, want %d", got, want)
	}
}

// one does a whole transaction of one put.
func (x *run) one(key int, value uint64) {
	x.t.Helper()
	x.begin(64)
	x.put(64, key, value)
	x.commit(64)
}

// kill has the disk die, and the engine not know it.
func (x *run) kill() {
	x.t.Helper()
	x.d.Stop(1)
	if x.d.Sync() != api.ErrDead {
		x.t.Fatal("the disk lives")
	}
}

// all calls each call but Disk and Close, Ids and Used, with arguments that would be refused and others; each must answer that error, and nothing beside it.
func (x *run) all(want api.Errno) {
	x.t.Helper()
	for _, id := range []int{-1, 0, 1, 2, 3, 64, 65} {
		x.want("Begin", x.e.Begin(id), want)
		for _, key := range []int{-1, 0, 1, 2, 8, 99, 100} {
			x.getsNone(id, key, want)
			x.want("Put", x.e.Put(id, key, 7, 0), want)
			x.deletes(id, key, false, want)
		}
		x.want("Commit", x.e.Commit(id), want)
		x.want("Abort", x.e.Abort(id, 0), want)
	}
	for _, page := range []int{-1, 0, 1, 2, 16} {
		x.want("Clean", x.e.Clean(page), want)
	}
	x.want("Checkpoint", x.e.Checkpoint(), want)
	x.want("Renew", x.e.Renew(), want)
	x.dumpsNone(want)
}

// newest gives what the newest master says that lasts.
func newest(t *testing.T, d *disk.Disk) master.State {
	t.Helper()
	s, there, f := master.Newest(d.Crash(api.Choice{}))
	ok(t, "Newest", f)
	if !there {
		return master.State{}
	}
	return s
}

// sheet lays out a right page by hand: a row of 16 bytes for each slot.
func sheet(number, lsn int, slots ...[]byte) []byte {
	b := binary.LittleEndian.AppendUint64(nil, uint64(lsn))
	b = binary.LittleEndian.AppendUint32(b, uint32(number))
	rest := binary.LittleEndian.AppendUint64(bytes.Join(slots, nil), uint64(lsn))
	b = binary.LittleEndian.AppendUint32(b, crc32.ChecksumIEEE(append(bytes.Clone(b), rest...)))
	return append(b, rest...)
}

// slot lays out a slot that is used.
func slot(key int, value uint64) []byte {
	b := binary.LittleEndian.AppendUint32([]byte{1, 0, 0, 0}, uint32(key))
	return binary.LittleEndian.AppendUint64(b, value)
}

// masterOf lays out a master by hand.
func masterOf(turn, base, check int) []byte {
	b := binary.LittleEndian.AppendUint64(nil, uint64(turn))
	b = binary.LittleEndian.AppendUint64(b, uint64(base))
	b = binary.LittleEndian.AppendUint64(b, uint64(check))
	b = append(b, 0, 0, 0, 0)
	b = binary.LittleEndian.AppendUint32(b, crc32.ChecksumIEEE(b))
	return binary.LittleEndian.AppendUint64(b, uint64(turn))
}

// loaded gives a disk with these pages and the master {1, base, 0}.
func loaded(t *testing.T, s api.Shape, base int, pages ...[]byte) *disk.Disk {
	t.Helper()
	d, f := disk.New(s)
	ok(t, "disk.New", f)
	m := d.Image()
	copy(m.Pages, pages)
	m.Masters[1] = masterOf(1, base, 0)
	d, f = disk.Load(s, m)
	ok(t, "disk.Load", f)
	return d
}

func sameReport(a, b api.Report) bool {
	return slices.Equal(a.Winners, b.Winners) && slices.Equal(a.Losers, b.Losers) && a.Redone == b.Redone && a.Undone == b.Undone && a.Ends == b.Ends
}

func isEmpty(r api.Report) bool { return sameReport(r, api.Report{}) }

func sameImage(a, b api.Image) bool {
	return slices.EqualFunc(a.Pages, b.Pages, bytes.Equal) && bytes.Equal(a.Pair, b.Pair) && bytes.Equal(a.Log, b.Log) &&
		bytes.Equal(a.Masters[0], b.Masters[0]) && bytes.Equal(a.Masters[1], b.Masters[1])
}
