package engine_test

import (
	"bytes"
	"math"
	"slices"
	"testing"

	"tidemark/api"
	"tidemark/disk"
	"tidemark/engine"
	"tidemark/master"
	"tidemark/restart"
)

// wrong gives configurations that may not be, each by one number.
func wrong() []api.Config {
	var all []api.Config
	for _, turn := range []func(*api.Config, int){
		func(c *api.Config, n int) { c.Frames = []int{math.MinInt, -1, 0, 1, 17, 1 << 32, math.MaxInt}[n] },
		func(c *api.Config, n int) { c.Table = []int{math.MinInt, -1, 0, 9, 10, 1<<32 + 1, math.MaxInt}[n] },
		func(c *api.Config, n int) {
			c.Keys = []int{math.MinInt, -1, 0, 1<<20 + 1, 1 << 32, 1<<32 + 1, math.MaxInt}[n]
		},
		func(c *api.Config, n int) {
			c.Shape.Pages = []int{math.MinInt, -1, 0, 17, 1 << 32, 1<<32 + 1, math.MaxInt}[n]
		},
		func(c *api.Config, n int) {
			c.Shape.Slots = []int{math.MinInt, -1, 0, 9, 1 << 32, 1<<32 + 1, math.MaxInt}[n]
		},
		func(c *api.Config, n int) {
			c.Shape.Log = []int{math.MinInt, -1, 0, 1023, 65537, 1<<32 + 1024, math.MaxInt}[n]
		},
	} {
		for n := range 7 {
			c := small()
			turn(&c, n)
			all = append(all, c)
		}
	}
	return append(all, api.Config{})
}

// right gives configurations that may be, at the edges.
func right() []api.Config {
	var all []api.Config
	for _, turn := range []func(*api.Config){
		func(c *api.Config) { c.Frames = 2 },
		func(c *api.Config) { c.Frames = 16 },
		func(c *api.Config) { c.Table = 1 },
		func(c *api.Config) { c.Table = 8 },
		func(c *api.Config) { c.Keys = 1 },
		func(c *api.Config) { c.Keys = 1 << 20 },
		func(c *api.Config) { c.Shape.Pages = 1 },
		func(c *api.Config) { c.Shape.Pages = 16 },
		func(c *api.Config) { c.Shape.Slots = 1 },
		func(c *api.Config) { c.Shape.Slots = 8 },
		func(c *api.Config) { c.Shape.Log = 1024 },
		func(c *api.Config) { c.Shape.Log = 65536 },
	} {
		c := small()
		turn(&c)
		all = append(all, c)
	}
	return all
}

func TestConfigsThatMayNotBe(t *testing.T) { // P26.1
	for _, c := range wrong() {
		if e, f := engine.Create(c); e != nil || f != api.ErrConfig {
			t.Errorf("Create(%v): %v, %d", c, e != nil, f)
		}
		d := create(t, small()).d
		was, acts := d.Image(), d.Acts()
		for _, manager := range []int{api.Aries, api.Choose, 0, 3} { // ahead of the manager, too
			refuses(t, d, c, manager, api.ErrConfig)
		}
		if d.Acts() != acts || !sameImage(d.Image(), was) {
			t.Errorf("Open(.., %v) has done an act", c)
		}
	}
}

func TestConfigsThatMayBe(t *testing.T) { // P26.1
	for _, c := range right() {
		x := create(t, c)
		if x.d.Shape() != c.Shape {
			t.Errorf("%v: a disk of the shape %v", c, x.d.Shape())
		}
		x.one(0, 7)
		for _, manager := range []int{api.Aries, api.Choose} {
			y, r := opens(t, x.d.Copy(), c, manager)
			if !slices.Equal(r.Winners, []int{1}) {
				t.Errorf("%v: %v", c, r)
			}
			y.dumps(api.Entry{Key: 0, Value: 7})
			y.one(0, 8)
		}
	}
}

// Each edge that Create was given is the one that holds: of the keys, of the open ones, of the pages.
func TestConfigsHold(t *testing.T) { // P26.1, P26.2
	for _, n := range []int{1, 2, 8} {
		for _, keys := range []int{1, 5, 1 << 20} {
			c := api.Config{Shape: api.Shape{Pages: 3, Slots: 1, Log: 65536}, Frames: 2, Table: n, Keys: keys}
			made := create(t, c)
			opened, _ := opens(t, create(t, small3()).d, c, api.Aries)
			for _, x := range []*run{made, opened} {
				for id := 1; id <= n; id++ {
					x.begin(id)
				}
				x.want("Begin", x.e.Begin(n+1), api.ErrTable)
				x.put(1, keys-1, 3)
				x.want("Put", x.e.Put(1, keys, 3, 0), api.ErrKey)
				x.want("Put", x.e.Put(1, -1, 3, 0), api.ErrKey)
				x.want("Clean", x.e.Clean(2), api.OK)
				x.want("Clean", x.e.Clean(3), api.ErrPlace)
			}
		}
	}
}

// small3 is a disk of three pages of one slot and the greatest log.
func small3() api.Config {
	return api.Config{Shape: api.Shape{Pages: 3, Slots: 1, Log: 65536}, Frames: 5, Table: 3, Keys: 7}
}

// The first master lasts, and nothing else was written.
func TestCreated(t *testing.T) { // P26.1
	for _, c := range right() {
		x := create(t, c)
		blank, f := disk.New(c.Shape)
		ok(t, "disk.New", f)
		want := blank.Image()
		want.Masters[1] = masterOf(1, 0, 0)
		if !sameImage(x.d.Lasts(), want) || !sameImage(x.d.Image(), want) || x.d.Dead() {
			t.Errorf("Create(%v) leaves %x", c, x.d.Lasts())
		}
		x.ids()
		x.used(0, 0)
		x.dumps()
	}
	a, b := create(t, small()), create(t, small())
	a.one(8, 5)
	b.dumps()
	b.used(0, 0)
}

func TestAnotherShape(t *testing.T) { // P26.1
	for _, s := range []api.Shape{{Pages: 3, Slots: 2, Log: 1024}, {Pages: 1, Slots: 2, Log: 1024}, {Pages: 2, Slots: 1, Log: 1024}, {Pages: 2, Slots: 3, Log: 1024}, {Pages: 2, Slots: 2, Log: 1025}} {
		d, f := disk.New(s)
		ok(t, "disk.New", f)
		for _, manager := range []int{api.Aries, api.Choose, 3} {
			refuses(t, d, small(), manager, api.ErrConfig)
		}
		d.Stop(1) // nobody finds out
		refuses(t, d, small(), api.Aries, api.ErrConfig)
		if d.Acts() != 0 || d.Dead() {
			t.Errorf("%v: %d acts", s, d.Acts())
		}
	}
}

// Open answers what restart.Run of a copy does, and leaves what that leaves.
func TestOpenIsARestart(t *testing.T) { // P26.1
	behind := map[int]int{} // by the acts behind the restart: how often
	for _, manager := range []int{api.Aries, api.Choose} {
		for _, frames := range []int{2, 3, 16} {
			c := wide()
			c.Frames = 16
			x := create(t, c)
			x.one(1, 4)
			x.want("Checkpoint", x.e.Checkpoint(), api.OK)
			for key := range 6 { // so how often a page goes out hangs on the frames
				x.one(key, 4)
			}
			x.begin(3)
			x.put(3, 2, 9)
			x.put(3, 3, 9)
			x.begin(4)
			x.put(4, 4, 9)
			x.want("Clean", x.e.Clean(4), api.OK)
			d, twin := x.d.Copy(), x.d.Copy()
			want, f := restart.Run(twin, frames, manager)
			ok(t, "restart.Run", f)
			c.Frames = frames
			y, r := opens(t, d, c, manager)
			behind[d.Acts()-twin.Acts()]++
			if !sameReport(r, want) || len(r.Winners) != 7 || len(r.Losers) != 2 || r.Undone != 3 {
				t.Errorf("Open tells %v, restart.Run %v", r, want)
			}
			if !sameImage(d.Lasts(), twin.Lasts()) || !sameImage(d.Image(), twin.Image()) {
				t.Errorf("Open leaves another disk than restart.Run")
			}
			y.ids()
			y.used(0, 0)
			for key, x := range dumpOf(y) {
				if x != (api.Entry{Key: key, Value: 4}) {
					t.Errorf("%v, want the value 4", x)
				}
			}
		}
	}
	if len(behind) != 1 {
		t.Errorf("the acts behind the restart are of several numbers: %v", behind)
	}
}

func dumpOf(x *run) []api.Entry {
	x.t.Helper()
	l, f := x.e.Dump()
	ok(x.t, "Dump", f)
	return l
}

func TestOpenIsRefused(t *testing.T) { // P26.1
	d := create(t, small()).d
	for _, manager := range []int{math.MinInt, -1, 0, 3, 1 << 32, 1<<32 + 1, math.MaxInt} {
		acts := d.Acts()
		refuses(t, d, small(), manager, api.ErrManager)
		if d.Acts() != acts {
			t.Errorf("manager %d: an act", manager)
		}
	}
	m := d.Image()
	m.Masters[1][3]++ // no master, and not blank
	m.Log = []byte{9}
	d, f := disk.Load(small().Shape, m)
	ok(t, "disk.Load", f)
	for _, manager := range []int{api.Aries, api.Choose} {
		refuses(t, d, small(), manager, api.ErrCorrupt)
	}
	if !sameImage(d.Image(), m) {
		t.Error("a disk that was refused has changed")
	}
	d.Stop(1)
	refuses(t, d, small(), api.Aries, api.ErrDead)
	refuses(t, d, small(), api.Aries, api.ErrDead)
	refuses(t, d, small(), 3, api.ErrManager)
	refuses(t, d, wide(), api.Aries, api.ErrConfig)
}

// Wherever Open is cut, behind the restart too, it answers ErrDead and nothing else.
func TestOpenIsCut(t *testing.T) { // P26.1, P26.6
	for _, manager := range []int{api.Aries, api.Choose} {
		x := create(t, small())
		x.one(8, 5)
		whole := x.d.Copy()
		opens(t, whole, small(), manager)
		for stop := 1; stop <= whole.Acts(); stop++ {
			d := x.d.Copy()
			d.Stop(stop)
			refuses(t, d, small(), manager, api.ErrDead)
			y, _ := opens(t, d.Crash(api.Choice{}), small(), manager)
			y.dumps(api.Entry{Key: 8, Value: 5})
		}
		d := x.d.Copy()
		d.Stop(whole.Acts() + 1)
		opens(t, d, small(), manager)
	}
}

// A new disk is opened as any other.
func TestOpenOfANewDisk(t *testing.T) { // P26.1
	d, f := disk.New(small().Shape)
	ok(t, "disk.New", f)
	x, r := opens(t, d, small(), api.Choose)
	if !isEmpty(r) || newest(t, d) != (master.State{Turn: 1}) {
		t.Errorf("told %v, the master is %v", r, newest(t, d))
	}
	x.one(8, 5)
	x.dumps(api.Entry{Key: 8, Value: 5})
	x.used(156, 0)
}

func TestOtherKeysAndTable(t *testing.T) { // P26.1
	x := create(t, small())
	x.one(9, 1)
	x.one(98, 2)
	x.one(8, 3)
	c := small()
	c.Keys, c.Table, c.Frames = 9, 1, 7
	y, _ := opens(t, x.d, c, api.Aries)
	y.dumps(api.Entry{Key: 8, Value: 3}, api.Entry{Key: 9, Value: 1}, api.Entry{Key: 98, Value: 2})
	y.begin(1)
	y.want("Begin", y.e.Begin(2), api.ErrTable)
	y.gets(1, 8, 3)
	y.getsNone(1, 9, api.ErrKey)
	y.want("Put", y.e.Put(1, 6, 1, 0), api.ErrFull) // a key that is none any more has its slot still
	y.commit(1)
	c.Keys, c.Table, c.Frames = 1<<20, 8, 2
	z, _ := opens(t, y.d, c, api.Choose)
	z.begin(1)
	z.begin(2)
	z.gets(1, 98, 2)
	z.deletes(2, 9, true, api.OK)
	z.put(2, 1<<20-1, 6)
	z.commit(1)
	z.commit(2)
	z.dumps(api.Entry{Key: 8, Value: 3}, api.Entry{Key: 98, Value: 2}, api.Entry{Key: 1<<20 - 1, Value: 6})
}

func TestTheExamples(t *testing.T) { // P26.1, P26.2, P26.4
	x := create(t, small())
	x.begin(3)
	x.put(3, 8, 5)
	x.gets(3, 8, 5)
	x.begin(4)
	x.getsNone(4, 8, api.ErrBusy)
	x.getsNone(4, 7, api.OK)
	x.dumpsNone(api.ErrOpen)
	x.commit(3)
	x.abort(4)
	x.dumps(api.Entry{Key: 8, Value: 5})
	x.used(256, 0)

	d := x.d.Crash(api.Choice{})
	y, r := opens(t, d, small(), api.Choose)
	if want := (api.Report{Winners: []int{1}, Losers: []int{91}, Redone: 1, Ends: 2}); !sameReport(r, want) {
		t.Errorf("told %v, want %v", r, want)
	}
	y.dumps(api.Entry{Key: 8, Value: 5})
	refuses(t, d, small(), 3, api.ErrManager)
	refuses(t, d, wide(), api.Aries, api.ErrConfig)
}

func TestPutsTillTheLogIsFull(t *testing.T) { // P26.2: the fifth example
	for _, ahead := range []int{0, 1, 2} {
		x := create(t, small())
		var want []api.Entry
		for i := range ahead {
			x.one(8+i, 4)
			want = append(want, api.Entry{Key: 8 + i, Value: 4})
		}
		x.begin(3)
		f := api.OK
		for i := uint64(10); f == api.OK; i++ {
			f = x.e.Put(3, 8, i, 0)
		}
		x.want("Put", f, api.ErrLog)
		x.getsNone(3, 8, api.ErrTxn)
		x.dumps(want...)
		x.ids()
		bytes, kept := x.e.Used()
		if kept != 0 || bytes > 1024 {
			t.Errorf("Used: %d, %d", bytes, kept)
		}
		x.want("Renew", x.e.Renew(), api.OK)
		x.begin(3)
		x.put(3, 8, 6)
	}
}

func TestBegin(t *testing.T) { // P26.2
	x := create(t, small())
	for _, id := range []int{math.MinInt, -1, 0, 65, 1 << 32, 1<<32 + 1, math.MaxInt} {
		x.want("Begin", x.e.Begin(id), api.ErrTxn)
	}
	x.begin(64)
	x.want("Begin", x.e.Begin(64), api.ErrTxn)
	x.begin(1)
	x.want("Begin", x.e.Begin(2), api.ErrTable)
	for _, id := range []int{0, 1, 64, 65} {
		x.want("Begin", x.e.Begin(id), api.ErrTxn) // ahead of ErrTable
	}
	x.ids(1, 64)
	x.commit(1)
	x.begin(1)
	x.want("Begin", x.e.Begin(2), api.ErrTable)
	x.abort(1)
	x.begin(1)
	x.ids(1, 64)
}

// tight has two transactions on a log without room for one update more: 3 holds page 0, which is full; 4 holds nothing.
func tight(t *testing.T) *run {
	t.Helper()
	x := create(t, small())
	x.begin(3)
	x.begin(4)
	x.put(3, 8, 0)
	x.put(3, 10, 5)
	for i := range uint64(6) {
		x.put(3, 8, i+1)
	}
	if bytes, kept := x.e.Used(); 1024-bytes-kept != 26 { // a put of one byte needs 40 + 47
		t.Fatalf("%d and %d", bytes, kept)
	}
	return x
}

func TestTheOrderOfErrors(t *testing.T) { // P26.2
	x := tight(t)
	bytes, kept := x.e.Used()
	for _, id := range []int{-1, 0, 1, 2, 5, 65} {
		for _, key := range []int{-1, 0, 8, 12, 100} {
			x.getsNone(id, key, api.ErrTxn)
			x.want("Put", x.e.Put(id, key, 9, 0), api.ErrTxn)
			x.deletes(id, key, false, api.ErrTxn)
		}
		x.want("Commit", x.e.Commit(id), api.ErrTxn)
		x.want("Abort", x.e.Abort(id, 0), api.ErrTxn)
	}
	for _, key := range []int{math.MinInt, -2, -1, 100, 102, 1 << 32, math.MaxInt} {
		for _, id := range []int{3, 4} { // also where the page is another's
			x.getsNone(id, key, api.ErrKey)
			x.want("Put", x.e.Put(id, key, 9, 0), api.ErrKey)
			x.deletes(id, key, false, api.ErrKey)
		}
	}
	for _, key := range []int{0, 8, 10, 12, 98} { // also where the page is full, and the log
		x.getsNone(4, key, api.ErrBusy)
		x.want("Put", x.e.Put(4, key, 9, 0), api.ErrBusy)
		x.deletes(4, key, false, api.ErrBusy)
	}
	x.want("Put", x.e.Put(3, 12, 9, 0), api.ErrFull) // though the log has no room
	x.put(3, 8, 6)                                   // nothing is changed: so nothing is logged
	x.deletes(3, 12, false, api.OK)
	x.gets(3, 10, 5)
	x.want("Begin", x.e.Begin(5), api.ErrTable)
	x.want("Renew", x.e.Renew(), api.ErrOpen)
	x.want("Checkpoint", x.e.Checkpoint(), api.ErrLog)
	x.dumpsNone(api.ErrOpen)
	x.used(bytes, kept)
	x.ids(3, 4)
	x.want("Put", x.e.Put(4, 7, 1, 0), api.ErrLog)
	x.want("Begin", x.e.Begin(5), api.ErrLog)
	x.ids(3)
	x.gets(3, 8, 6)
	x.commit(3)
	x.dumps(api.Entry{Key: 8, Value: 6}, api.Entry{Key: 10, Value: 5})
}

// A put, or a delete, that the log has no room for ends its transaction: its pages are free, its number too, and what it did is gone.
func TestRoomless(t *testing.T) { // P26.2
	for _, call := range []func(x *run){
		func(x *run) { x.want("Put", x.e.Put(3, 8, 99, 0), api.ErrLog) },
		func(x *run) { x.want("Put", x.e.Put(3, 7, 0, 0), api.ErrLog) },
		func(x *run) { x.deletes(3, 8, false, api.ErrLog) },
		func(x *run) { x.deletes(3, 10, false, api.ErrLog) },
	} {
		x := tight(t)
		bytes, kept := x.e.Used()
		call(x)
		x.ids(4)
		x.used(bytes+kept-99-33, 99) // of what 3 kept its commit alone is not used
		x.getsNone(3, 8, api.ErrTxn)
		x.getsNone(4, 8, api.OK)
		x.getsNone(4, 7, api.OK)
		x.commit(4)
		x.dumps()
	}
}

// The abort that follows ErrLog goes by the same pick, and may need the disk: if it dies then, the answer is ErrDead.
func TestRoomlessAndDead(t *testing.T) { // P26.2, P26.6
	spread := func() *run {
		c := wide()
		c.Shape.Log = 1024
		x := create(t, c)
		x.begin(3)
		x.put(3, 0, 5)
		x.put(3, 1, 5)
		x.want("Checkpoint", x.e.Checkpoint(), api.OK)
		x.put(3, 2, 5) // page 0 goes out
		x.put(3, 3, 5) // page 1
		x.used(34+4*56+35+26+2*9, 99+4*55)
		x.begin(4)
		x.used(34+34+4*56+35+26+2*9, 99+99+4*55)
		x.want("Clean", x.e.Clean(2), api.OK)
		x.put(4, 5, 1) // page 2, which is clean
		x.commit(4)
		x.begin(1) // it keeps what the others lack
		return x
	}
	whole := spread()
	was := whole.d.Acts()
	whole.want("Put", whole.e.Put(3, 2, 1<<63, 0), api.ErrLog)
	acts := whole.d.Acts() - was
	whole.commit(1)
	whole.dumps(api.Entry{Key: 5, Value: 1})
	if acts < 10 {
		t.Fatalf("only %d acts", acts)
	}
	for stop := 1; stop <= acts; stop++ {
		x := spread()
		x.d.Stop(stop)
		x.want("Put", x.e.Put(3, 2, 1<<63, 0), api.ErrDead)
		x.all(api.ErrDead)
		y, _ := opens(t, x.d.Crash(api.Choice{}), wideOf(1024), api.Aries+stop%2)
		y.dumps(api.Entry{Key: 5, Value: 1})
		x = spread()
		x.d.Stop(stop)
		x.deletes(3, 2, false, api.ErrDead)
		x.all(api.ErrDead)
	}
	x := spread()
	x.d.Stop(acts + 1)
	x.deletes(3, 2, false, api.ErrLog)
	x.d.Stop(0)
	x.ids(1)
	x.commit(1)
	x.dumps(api.Entry{Key: 5, Value: 1})
}

func wideOf(log int) api.Config {
	c := wide()
	c.Shape.Log = log
	return c
}

func TestAbort(t *testing.T) { // P26.2
	c := small()
	c.Shape.Log = 4096
	x := create(t, c)
	x.one(8, 5)
	x.begin(3)
	x.deletes(3, 8, true, api.OK)
	x.put(3, 10, 1)
	x.put(3, 12, 2)
	x.put(3, 10, 3)
	x.put(3, 7, 4)
	x.begin(4)
	x.getsNone(4, 8, api.ErrBusy)
	x.getsNone(4, 7, api.ErrBusy)
	bytes, kept := x.e.Used()
	x.acts(0, func() { x.abort(3) })
	x.used(bytes+kept-99-33, 99)
	x.want("Abort", x.e.Abort(3, 0), api.ErrTxn)
	x.want("Commit", x.e.Commit(3), api.ErrTxn)
	x.ids(4)
	x.gets(4, 8, 5)
	x.getsNone(4, 10, api.OK)
	x.getsNone(4, 7, api.OK)
	x.begin(3)
	x.abort(3)
	x.abort(4)
	x.dumps(api.Entry{Key: 8, Value: 5})
}

// Pages are let go by commit, as by abort; each sees what the others have committed.
func TestCommit(t *testing.T) { // P26.2
	x := create(t, small())
	x.begin(3)
	x.begin(4)
	x.put(3, 8, 5)
	x.put(4, 7, 6)
	x.getsNone(4, 8, api.ErrBusy)
	x.acts(2, func() { x.commit(3) })
	x.want("Commit", x.e.Commit(3), api.ErrTxn)
	x.gets(4, 8, 5)
	x.ids(4)
	x.commit(4)
	x.begin(3)
	x.gets(3, 7, 6)
	x.gets(3, 8, 5)
	x.deletes(3, 7, true, api.OK)
	x.deletes(3, 7, false, api.OK)
	x.put(3, 8, 1<<64-1)
	x.commit(3)
	x.dumps(api.Entry{Key: 8, Value: 1<<64 - 1})
}

// pages tells which pages stand on the disk with an LSN.
func pages(d *disk.Disk) []int {
	var all []int
	for number, b := range d.Lasts().Pages {
		if !bytes.Equal(b[:8], make([]byte, 8)) {
			all = append(all, number)
		}
	}
	return all
}

// The page that goes out is the one that pick tells: here of two dirty ones, 1 and 4.
func TestPick(t *testing.T) { // P26.2
	for name, call := range map[string]func(x *run, pick int){
		"Get":    func(x *run, pick int) { x.e.Get(3, 2, pick) },
		"Put":    func(x *run, pick int) { x.e.Put(3, 2, 9, pick) },
		"Delete": func(x *run, pick int) { x.e.Delete(3, 2, pick) },
		"Abort":  func(x *run, pick int) { x.e.Abort(2, pick) },
	} {
		for pick, want := range map[int]int{0: 1, 1: 4, 2: 1, -1: 4, -2: 1, math.MaxInt: 4, math.MinInt: 1, 1<<32 + 1: 4} {
			x := create(t, wide())
			x.begin(2)
			x.put(2, 5, 3)
			x.want("Clean", x.e.Clean(5), api.OK)
			x.begin(3)
			x.put(3, 1, 9)
			x.want("Put", x.e.Put(3, 4, 9, 1), api.OK) // page 5 goes out, which is clean
			if got := pages(x.d); !slices.Equal(got, []int{5}) {
				t.Fatalf("pages %v are written", got)
			}
			call(x, pick)
			if got := pages(x.d); !slices.Equal(got, []int{want, 5}) {
				t.Errorf("%s with %d: pages %v are written, want %d and 5", name, pick, got, want)
			}
		}
	}
}

func TestCheckpoint(t *testing.T) { // P26.3
	x := create(t, small())
	x.acts(4, func() { x.want("Checkpoint", x.e.Checkpoint(), api.OK) })
	if s := newest(t, x.d); s != (master.State{Turn: 2, Check: 1}) {
		t.Errorf("the master is %v", s)
	}
	x.used(35, 0)
	x.begin(3)
	x.put(3, 8, 5)
	x.want("Checkpoint", x.e.Checkpoint(), api.OK)
	x.used(35+34+56+35+26+9, 99+55)
	if s := newest(t, x.d); s != (master.State{Turn: 3, Check: 126}) {
		t.Errorf("the master is %v", s)
	}
	x.commit(3)
	for f := api.OK; f == api.OK; {
		bytes, _ := x.e.Used()
		f = x.e.Checkpoint()
		if want := bytes+35+9 <= 1024; want != (f == api.OK) {
			t.Fatalf("Checkpoint behind %d bytes: %d", bytes, f)
		}
	}
	was := x.d.Image()
	x.acts(0, func() { x.want("Checkpoint", x.e.Checkpoint(), api.ErrLog) })
	if !sameImage(x.d.Image(), was) {
		t.Error("a checkpoint that was refused has changed the disk")
	}
	x.dumps(api.Entry{Key: 8, Value: 5})
}

func TestRenew(t *testing.T) { // P26.3
	x := create(t, small())
	x.begin(3)
	x.put(3, 8, 5)
	was := x.d.Image()
	x.acts(0, func() { x.want("Renew", x.e.Renew(), api.ErrOpen) })
	if !sameImage(x.d.Image(), was) {
		t.Error("a Renew that was refused has changed the disk")
	}
	x.commit(3)
	x.want("Renew", x.e.Renew(), api.OK)
	x.used(0, 0)
	want := was
	want.Masters[0] = masterOf(2, 156, 0)
	want.Log = nil
	want.Pages[0] = sheet(0, 35, slot(8, 5), make([]byte, 16))
	got := x.d.Lasts()
	want.Pair = got.Pair
	if !sameImage(got, want) {
		t.Errorf("Renew leaves %x, want %x", got, want)
	}
	x.dumps(api.Entry{Key: 8, Value: 5})
	x.want("Renew", x.e.Renew(), api.OK)
	if s := newest(t, x.d); s != (master.State{Turn: 3, Base: 156}) {
		t.Errorf("the master is %v", s)
	}
	x.one(7, 1)
	x.want("Checkpoint", x.e.Checkpoint(), api.OK)
	if s := newest(t, x.d); s != (master.State{Turn: 4, Base: 156, Check: 156 + 157}) {
		t.Errorf("the master is %v", s)
	}
}

func TestClean(t *testing.T) { // P26.3
	x := create(t, wide())
	x.acts(0, func() {
		for _, number := range []int{math.MinInt, -1, 6, 7, 16, 1 << 32, math.MaxInt} {
			x.want("Clean", x.e.Clean(number), api.ErrPlace)
		}
		for number := range 6 {
			x.want("Clean", x.e.Clean(number), api.OK) // in no frame
		}
	})
	x.begin(3)
	x.e.Get(3, 4, 0)
	x.put(3, 5, 9)
	x.acts(0, func() { x.want("Clean", x.e.Clean(4), api.OK) }) // not dirty
	x.acts(6, func() { x.want("Clean", x.e.Clean(5), api.OK) })
	if got := pages(x.d); !slices.Equal(got, []int{5}) {
		t.Errorf("pages %v are written", got)
	}
	x.acts(0, func() { x.want("Clean", x.e.Clean(5), api.OK) })
	x.put(3, 5, 8)
	x.commit(3)
	x.acts(4, func() { x.want("Clean", x.e.Clean(5), api.OK) }) // the log is flushed
	x.acts(0, func() { x.want("Clean", x.e.Clean(6), api.ErrPlace) })
}

// A page in a frame is told as it is there, another as it is on the disk; no frame is taken for it.
func TestDump(t *testing.T) { // P26.4
	x := create(t, wide())
	x.dumps()
	var want []api.Entry
	for _, key := range []int{17, 4, 3, 12, 0, 9, 10} {
		x.one(key, uint64(1000-key))
		want = append(want, api.Entry{Key: key, Value: uint64(1000 - key)})
	}
	slices.SortFunc(want, func(a, b api.Entry) int { return a.Key - b.Key })
	for range 3 {
		x.acts(4, func() { x.dumps(want...) }) // of six pages two are in frames
	}
	got, _ := x.e.Dump()
	for i := range got[:cap(got)] {
		got[:cap(got)][i] = api.Entry{Key: -1}
	}
	x.dumps(want...)
	x.begin(1)
	x.acts(0, func() { x.dumpsNone(api.ErrOpen) })
	x.abort(1)
	x.dumps(want...)
	x.want("Renew", x.e.Renew(), api.OK)
	x.acts(4, func() { x.dumps(want...) })
}

// Of a disk that no engine has written: by key, then page, then slot, whatever the keys' homes are.
func TestDumpOfAnyPages(t *testing.T) { // P26.4
	c := api.Config{Shape: api.Shape{Pages: 3, Slots: 3, Log: 1024}, Frames: 2, Table: 1, Keys: 5}
	none, two := make([]byte, 16), slot(4, 77)
	two[0] = 2 // not used
	for _, base := range []int{0, 5000} {
		d := loaded(t, c.Shape, base,
			sheet(0, base, slot(9, 1), slot(2, 2), slot(9, 3)),
			sheet(1, base, none, slot(1<<32-1, 1<<64-1), two),
			sheet(2, 0, slot(2, 5), slot(9, 6), slot(2, 7)))
		for _, manager := range []int{api.Aries, api.Choose} {
			x, _ := opens(t, d.Copy(), c, manager)
			for range 2 {
				x.dumps(api.Entry{Key: 2, Value: 2}, api.Entry{Key: 2, Value: 5}, api.Entry{Key: 2, Value: 7},
					api.Entry{Key: 9, Value: 1}, api.Entry{Key: 9, Value: 3}, api.Entry{Key: 9, Value: 6}, api.Entry{Key: 1<<32 - 1, Value: 1<<64 - 1})
				x.begin(1) // the pages are brought into frames
				x.e.Get(1, 1, 0)
				x.e.Get(1, 2, 0)
				x.e.Get(1, 0, 0)
				x.commit(1)
			}
		}
	}
}

func TestIds(t *testing.T) { // P26.4
	c := wide()
	c.Table = 8
	x := create(t, c)
	x.ids()
	for _, id := range []int{33, 64, 1, 7, 50, 2} {
		x.begin(id)
	}
	x.ids(1, 2, 7, 33, 50, 64)
	got := x.e.Ids()
	clear(got[:cap(got)])
	x.ids(1, 2, 7, 33, 50, 64)
	x.abort(7)
	x.commit(64)
	x.ids(1, 2, 33, 50)
	x.begin(64)
	x.ids(1, 2, 33, 50, 64)
	x.used(7*34+4*33, 5*99)
}

// Behind Close nothing is done any more, and nothing was done by it.
func TestClose(t *testing.T) { // P26.5
	for _, dead := range []bool{false, true} {
		x := create(t, small())
		x.one(8, 5)
		x.begin(3)
		x.put(3, 7, 9)
		x.begin(4)
		if dead {
			x.kill()
			x.want("Checkpoint", x.e.Checkpoint(), api.ErrDead)
		}
		read, lasts := x.d.Image(), x.d.Lasts()
		x.acts(0, func() {
			x.want("Close", x.e.Close(), api.OK)
			for range 2 {
				x.want("Close", x.e.Close(), api.ErrClosed)
				x.all(api.ErrClosed)
				x.ids()
				x.used(0, 0)
				if x.e.Disk() != x.d {
					t.Error("Disk is another behind Close")
				}
			}
		})
		if !sameImage(x.d.Image(), read) || !sameImage(x.d.Lasts(), lasts) {
			t.Error("Close has changed the disk")
		}
		if !dead {
			y, r := opens(t, x.d, small(), api.Aries)
			if !slices.Equal(r.Winners, []int{1}) || len(r.Losers) != 0 { // 3 and 4 were in memory alone
				t.Errorf("told %v", r)
			}
			y.dumps(api.Entry{Key: 8, Value: 5})
			x.all(api.ErrClosed)
		}
	}
	x := create(t, small())
	x.want("Close", x.e.Close(), api.OK)
	x.all(api.ErrClosed)
}
