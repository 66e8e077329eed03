package write_test

import (
	"math"
	"slices"
	"testing"

	"tidemark/api"
	"tidemark/frame"
	"tidemark/record"
)

func TestBegin(t *testing.T) { // P19.1
	for _, base := range []int{0, 7, 100000} {
		s := wide()
		s.base = base
		x := made(t, s)
		x.acts("Begin", 0, func() {
			x.begins(64, base+1)
			x.wantRows(api.Row{Birth: base + 1, Id: 64, State: api.SOpen, Last: base + 1})
			x.wantKept(base+1, 99, 99)
			x.begins(1, base+35)
		})
		x.wantLog(beginOf(base+1, 64), beginOf(base+35, 1))
		x.wantRows(api.Row{Birth: base + 1, Id: 64, State: api.SOpen, Last: base + 1}, api.Row{Birth: base + 35, Id: 1, State: api.SOpen, Last: base + 35})
		x.wantKept(base+35, 99, 198)
		if x.l.Flushed() != base+1 {
			t.Errorf("a begin is flushed: up to %d", x.l.Flushed())
		}
		for n := range 16 {
			x.wantHolder(n, 0)
		}
	}
}

func TestBeginOfEachNumber(t *testing.T) { // P19.1
	x := made(t, wide())
	for id := 1; id <= 64; id++ {
		if _, e := x.begin(id); e != api.OK {
			t.Errorf("Begin(%d): %d, want OK", id, e)
		}
		x.noBegin(id, api.ErrTxn)
		x.commits(id)
	}
	x.wantRows()
}

func TestBeginOfAWrongNumber(t *testing.T) { // P19.1, P19.7
	for _, id := range noIds() {
		x := made(t, small())
		x.noBegin(id, api.ErrTxn)
		x.begins(3, 1)
		x.noBegin(id, api.ErrTxn)
		x.noBegin(3, api.ErrTxn)
	}
}

func TestBeginInAFullTable(t *testing.T) { // P19.1, P19.7
	for most := 1; most <= 8; most++ {
		s := wide()
		s.table = most
		x := made(t, s)
		for i := range most {
			x.begins(10+i, 34*i+1)
		}
		x.noBegin(9, api.ErrTable)
		x.noBegin(10+most-1, api.ErrTxn)
		x.noBegin(65, api.ErrTxn)
		x.commits(10)
		if birth, e := x.begin(9); birth != 34*most+67 || e != api.OK {
			t.Errorf("Begin behind a Commit: %d, %d", birth, e)
		}
		x.noBegin(10, api.ErrTable)
	}
}

// The rows that fill a table need not be this Writer's.
func TestBeginInATableThatOthersFilled(t *testing.T) { // P19.1, P19.7
	x := made(t, small())
	for i, birth := range []int{1, 2} {
		ok(t, "table.Put", x.b.Put(api.Row{Birth: birth, Id: 20 + i, State: api.SAborting, Last: birth + 5, Next: birth + 3}))
	}
	x.noBegin(9, api.ErrTable)
	x.noBegin(20, api.ErrTxn)
}

func TestBeginWithoutRoom(t *testing.T) { // P19.1, P19.7
	for _, base := range []int{0, 100000} {
		for _, others := range []int{0, 1, 3} {
			s := wide()
			s.base, s.area = base, (others+1)*(34+99)
			x := made(t, s)
			for i := range others + 1 {
				x.begins(i+1, base+34*i+1)
			}
			s.area--
			x = made(t, s)
			for i := range others {
				x.begins(i+1, base+34*i+1)
			}
			x.noBegin(others+1, api.ErrLog)
		}
	}
}

func TestBeginsErrorsByOrder(t *testing.T) { // P19.1, P19.7
	s := small()
	s.table, s.area = 1, 34+99
	x := made(t, s)
	x.begins(3, 1)
	x.noBegin(3, api.ErrTxn)   // the table is full, and the log too
	x.noBegin(0, api.ErrTxn)   // likewise
	x.noBegin(4, api.ErrTable) // the log is full, too
	s.table = 2
	x = made(t, s)
	x.begins(3, 1)
	x.noBegin(3, api.ErrTxn)
	x.noBegin(65, api.ErrTxn)
	x.noBegin(4, api.ErrLog)
}

// What others appended counts, flushed or not.
func TestRoomIsThatOfTheWholeLog(t *testing.T) { // P19.1, P19.4
	for _, flush := range []bool{false, true} {
		s := wide()
		s.area = 35 + 34 + 99 + 40 + 47
		x := made(t, s)
		if _, e := x.l.Append(api.Record{Kind: api.KCheck}); e != api.OK {
			t.Fatalf("Append: %d", e)
		}
		if flush {
			ok(t, "Flush", x.l.Flush(1))
		}
		x.begins(3, 36)
		x.noBegin(4, api.ErrLog)
		x.puts(3, 0, 0)
		x.refused("Put", api.ErrLog, func() api.Errno { return x.w.Put(3, 0, 1, 0) })
	}
}

func TestAskingOfNoTransaction(t *testing.T) { // P19.2, P19.7
	for _, c := range askings() {
		x := made(t, small())
		x.begins(3, 1)
		for _, id := range append(noIds(), 1, 2, 4, 64) {
			for _, key := range []int{0, 1, -1, 100} {
				x.refused(c.name, api.ErrTxn, func() api.Errno { return c.do(x, id, key, 0) })
			}
		}
		x.commits(3)
		x.refused(c.name, api.ErrTxn, func() api.Errno { return c.do(x, 3, 0, 0) })
	}
}

func TestAskingForAWrongKey(t *testing.T) { // P19.2, P19.7
	for _, keys := range []int{1, 2, 100, 1 << 20} {
		for _, c := range askings() {
			s := small()
			s.keys = keys
			x := made(t, s)
			x.begins(3, 1)
			for _, key := range noKeys(keys) {
				x.acts(c.name, 0, func() {
					x.refused(c.name, api.ErrKey, func() api.Errno { return c.do(x, 3, key, 0) })
				})
			}
			for _, key := range []int{0, keys - 1} {
				if e := c.do(x, 3, key, 0); e != api.OK {
					t.Errorf("%s of the key %d of %d: %d", c.name, key, keys, e)
				}
				x.wantHolder(key%2, 1)
			}
		}
	}
}

// Numbers of pages and of keys that may not be are home's to refuse; more pages than there are, the pool's.
func TestAskingOfAWrongWriter(t *testing.T) { // P19.2, P19.7
	for _, c := range askings() {
		for _, w := range []struct {
			pages, keys, key int
			want             api.Errno
		}{
			{0, 100, 1, api.ErrPage}, {-1, 100, 1, api.ErrPage}, {17, 100, 1, api.ErrPage}, {math.MaxInt, 100, 1, api.ErrPage}, {math.MinInt, 100, -1, api.ErrPage},
			{2, 0, 0, api.ErrKey}, {2, -1, 0, api.ErrKey}, {2, 1<<20 + 1, 0, api.ErrKey}, {2, math.MaxInt, 0, api.ErrKey},
			{3, 100, 2, api.ErrPlace}, {16, 100, 15, api.ErrPlace},
		} {
			x := made(t, small())
			x.w = newWriter(x, w.pages, w.keys)
			x.begins(3, 1)
			x.refused(c.name, w.want, func() api.Errno { return c.do(x, 3, w.key, 0) })
			x.refused(c.name, api.ErrTxn, func() api.Errno { return c.do(x, 4, w.key, 0) })
		}
	}
}

func TestEachKeyHasItsPage(t *testing.T) { // P19.2
	for pages := 1; pages <= 16; pages++ {
		s := wide()
		s.shape.Pages = pages
		for _, key := range []int{0, 1, pages - 1, pages, 5*pages + pages/2, 1<<20 - 1} {
			for _, c := range askings() {
				x := made(t, s)
				x.begins(3, 1)
				if e := c.do(x, 3, key, 0); e != api.OK {
					t.Errorf("%s(3, %d) of %d pages: %d", c.name, key, pages, e)
				}
				if got := x.k.Held(1); !slices.Equal(got, []int{key % pages}) {
					t.Errorf("%s(3, %d) of %d pages: held are %v", c.name, key, pages, got)
				}
			}
		}
	}
}

func TestBusy(t *testing.T) { // P19.2, P19.6, P19.7
	for _, first := range askings() {
		for _, c := range askings() {
			x := made(t, small())
			x.begins(3, 1)
			x.begins(4, 35)
			if e := first.do(x, 3, 8, 0); e != api.OK {
				t.Errorf("%s: %d", first.name, e)
			}
			for _, key := range []int{8, 10, 0, 98} {
				x.acts(c.name, 0, func() {
					x.refused(c.name, api.ErrBusy, func() api.Errno { return c.do(x, 4, key, 0) })
				})
			}
			if e := c.do(x, 4, 7, 0); e != api.OK {
				t.Errorf("%s of another page: %d", c.name, e)
			}
			x.wantHolder(0, 1)
			x.wantHolder(1, 35)
			x.refused(c.name, api.ErrBusy, func() api.Errno { return c.do(x, 3, 1, 0) })
			x.commits(3)
			x.wantHolder(0, 0)
			x.wantHolder(1, 35)
			if e := c.do(x, 4, 8, 0); e != api.OK {
				t.Errorf("%s of a page that was let go: %d", c.name, e)
			}
			x.wantHolder(0, 35)
		}
	}
}

// Each error is looked for ahead of those that apply besides: the transaction, the key, the page's holder, the pin.
func TestErrorsOfAskingByOrder(t *testing.T) { // P19.2, P19.7
	for _, c := range askings() {
		s := small()
		x := holding(t, s, torn(0, used(8, 1), used(10, 1)), torn(1, free(), free()))
		x.begins(3, 1)
		x.begins(4, 35)
		ok(t, "lock.Take", x.k.Take(0, 1))
		x.refused(c.name, api.ErrTxn, func() api.Errno { return c.do(x, 5, 100, 0) })
		x.refused(c.name, api.ErrTxn, func() api.Errno { return c.do(x, 5, 8, 0) })
		x.refused(c.name, api.ErrKey, func() api.Errno { return c.do(x, 4, 100, 0) })
		x.acts(c.name, 0, func() {
			x.refused(c.name, api.ErrBusy, func() api.Errno { return c.do(x, 4, 8, 0) })
		})
		x.acts(c.name, 1, func() {
			x.refused(c.name, api.ErrPage, func() api.Errno { return c.do(x, 3, 12, 0) })
		})
		x.acts(c.name, 1, func() {
			x.refused(c.name, api.ErrPage, func() api.Errno { return c.do(x, 4, 1, 0) })
		})
		x.wantHolder(0, 1)
		x.wantHolder(1, 0)
		x.d.Stop(1)
		x.refused(c.name, api.ErrTxn, func() api.Errno { return c.do(x, 5, 100, 0) })
		x.refused(c.name, api.ErrKey, func() api.Errno { return c.do(x, 4, 100, 0) })
		x.refused(c.name, api.ErrBusy, func() api.Errno { return c.do(x, 4, 8, 0) })
		if e := c.do(x, 4, 1, 0); e != api.ErrDead {
			t.Errorf("%s on a disk that dies: %d", c.name, e)
		}
	}
}

// A page that is asked for is read once, and comes from its frame from then on.
func TestActsOfAsking(t *testing.T) { // P19.2
	for _, c := range askings() {
		x := made(t, wide())
		x.begins(3, 1)
		x.acts(c.name, 1, func() { c.do(x, 3, 0, 0) })
		x.acts(c.name, 0, func() { c.do(x, 3, 3, 0) })
		x.acts(c.name, 1, func() { c.do(x, 3, 1, 0) })
	}
}

// pick says which page gives up its frame: as the pool says, by its rest.
func TestPickIsHandedOn(t *testing.T) { // P19.2
	for _, c := range askings() {
		for pick, gone := range map[int]int{0: 0, 1: 1, 2: 2, 3: 0, 7: 1, -1: 2, -3: 0, math.MaxInt: 1, math.MinInt: 1} {
			s := wide()
			s.shape.Pages, s.frames = 4, 3
			x := made(t, s)
			x.begins(3, 1)
			for n := range 3 {
				if e := c.do(x, 3, n, 99); e != api.OK {
					t.Fatalf("%s: %d", c.name, e)
				}
			}
			if e := c.do(x, 3, 3, pick); e != api.OK {
				t.Fatalf("%s: %d", c.name, e)
			}
			want := slices.DeleteFunc([]int{0, 1, 2, 3}, func(n int) bool { return n == gone })
			if got := x.p.Held(); !slices.Equal(got, want) {
				t.Errorf("%s with pick %d: in frames are %v, want %v", c.name, pick, got, want)
			}
		}
	}
}

// What a page was changed to is there still when it was written out and comes in again.
func TestPagesGoOutAndComeIn(t *testing.T) { // P19.2, P19.3, P19.4
	x := made(t, wide())
	x.begins(3, 1)
	x.puts(3, 0, 7)
	lsn := x.l.End()
	x.puts(3, 1, 8)
	x.gets(3, 2, 0, false) // page 0 is written for it: the log first
	if x.l.Flushed() <= lsn {
		t.Errorf("the log is flushed up to %d", x.l.Flushed())
	}
	if got := x.p.Held(); !slices.Equal(got, []int{1, 2}) {
		t.Fatalf("in frames are %v", got)
	}
	x.gets(3, 0, 7, true)
	x.gets(3, 1, 8, true)
	for n := range 3 {
		x.wantHolder(n, 1)
	}
}

// outcome is one of the ends that a call can come to, on what desk gives.
type outcome struct {
	name string
	full bool // no byte of the log is left
	key  int
	want api.Errno
	do   func(x *world, key int) api.Errno
}

// desk gives a Writer with the transaction 3 open: page 0 is full, page 1 has the key 1 and a free slot, page 2 is not right.
func desk(t *testing.T, full bool) *world {
	t.Helper()
	s := wide()
	if full {
		s.area = 34 + 99
	}
	x := holding(t, s, sheet(0, 0, used(0, 5), used(3, 6)), sheet(1, 0, used(1, 7), free()), torn(2, free(), free()))
	x.begins(3, 1)
	return x
}

func outcomes() []outcome {
	get := func(want uint64, has bool) func(x *world, key int) api.Errno {
		return func(x *world, key int) api.Errno {
			v, there, e := x.get(3, key, 0)
			if e == api.OK && (v != want || there != has) {
				x.t.Errorf("Get(3, %d): %d, %v", key, v, there)
			}
			return e
		}
	}
	put := func(v uint64) func(x *world, key int) api.Errno {
		return func(x *world, key int) api.Errno { return x.w.Put(3, key, v, 0) }
	}
	remove := func(has bool) func(x *world, key int) api.Errno {
		return func(x *world, key int) api.Errno {
			there, e := x.delete(3, key, 0)
			if e == api.OK && there != has {
				x.t.Errorf("Delete(3, %d): %v", key, there)
			}
			return e
		}
	}
	var all []outcome
	for _, full := range []bool{false, true} {
		wantLog := api.OK
		if full {
			wantLog = api.ErrLog
		}
		all = append(all,
			outcome{"a get of what is there", full, 1, api.OK, get(7, true)},
			outcome{"a get of what is not there", full, 4, api.OK, get(0, false)},
			outcome{"a get in a full page", full, 6, api.OK, get(0, false)},
			outcome{"a get of a page that is not right", full, 2, api.ErrPage, get(0, false)},
			outcome{"a put of what is there", full, 1, api.OK, put(7)},
			outcome{"a put of another value", full, 1, wantLog, put(8)},
			outcome{"a put of a new key", full, 4, wantLog, put(0)},
			outcome{"a put of another value in a full page", full, 3, wantLog, put(5)},
			outcome{"a put of a new key in a full page", full, 6, api.ErrFull, put(6)},
			outcome{"a put into a page that is not right", full, 2, api.ErrPage, put(0)},
			outcome{"a delete of what is there", full, 1, wantLog, remove(true)},
			outcome{"a delete of what is not there", full, 4, api.OK, remove(false)},
			outcome{"a delete in a full page", full, 3, wantLog, remove(true)},
			outcome{"a delete of what is not there in a full page", full, 6, api.OK, remove(false)},
			outcome{"a delete in a page that is not right", full, 2, api.ErrPage, remove(false)},
		)
	}
	return all
}

// Behind an OK the page is held; an error gives back what the call took, and leaves what was held.
func TestWhatIsHeldBehindWhichAnswer(t *testing.T) { // P19.3, P19.4, P19.7
	for _, o := range outcomes() {
		for _, had := range []bool{false, true} {
			x := desk(t, o.full)
			number := o.key % 3
			if had {
				ok(t, "lock.Take", x.k.Take(number, 1))
			}
			if o.want == api.OK {
				if e := o.do(x, o.key); e != api.OK {
					t.Errorf("%s: %d", o.name, e)
				}
			} else {
				x.refused(o.name, o.want, func() api.Errno { return o.do(x, o.key) })
			}
			want := 0
			if had || o.want == api.OK {
				want = 1
			}
			x.wantHolder(number, want)
			x.wantHolder((number+1)%3, 0)
			x.wantHolder((number+2)%3, 0)
		}
	}
}

// Whatever the answer is, the page is pinned just as often as ahead of the call.
func TestUnpinnedAtTheEnd(t *testing.T) { // P19.2
	for _, o := range outcomes() {
		if o.want == api.ErrPage {
			continue
		}
		x := desk(t, o.full)
		x.s.shape.Pages = 2 // page 2 is none of the Writer's in this test
		number := o.key % 3
		for n := range 2 {
			if _, e := x.p.Pin(n, 0); e != api.OK {
				t.Fatalf("Pin: %d", e)
			}
		}
		if e := o.do(x, o.key); e != o.want {
			t.Errorf("%s: %d, want %d", o.name, e, o.want)
		}
		if _, e := x.p.Pin(2, 0); e != api.ErrPinned {
			t.Errorf("%s: the page is unpinned once too often", o.name)
		}
		x.p.Unpin(number)
		if _, e := x.p.Pin(2, 0); e != api.ErrPage {
			t.Errorf("%s: the page stays pinned", o.name)
		}
	}
}

// A page that is not right is not pinned, and takes no frame.
func TestNotRightIsNotPinned(t *testing.T) { // P19.2
	for _, c := range askings() {
		x := desk(t, false)
		for range 3 {
			x.refused(c.name, api.ErrPage, func() api.Errno { return c.do(x, 3, 2, 0) })
		}
		if got := x.p.Held(); len(got) != 0 {
			t.Errorf("%s: in frames are %v", c.name, got)
		}
	}
}

// All frames pinned is the pool's error, and gives the page back.
func TestAllFramesPinned(t *testing.T) { // P19.2, P19.7
	for _, c := range askings() {
		x := made(t, wide())
		x.begins(3, 1)
		for n := range 2 {
			if _, e := x.p.Pin(n, 0); e != api.OK {
				t.Fatalf("Pin: %d", e)
			}
		}
		x.refused(c.name, api.ErrPinned, func() api.Errno { return c.do(x, 3, 2, 0) })
		x.wantHolder(2, 0)
	}
}

func TestGet(t *testing.T) { // P19.3
	values := []uint64{0, 1, 255, 1 << 32, math.MaxInt64, 1 << 63, math.MaxUint64}
	for _, v := range values {
		s := wide()
		x := holding(t, s, sheet(0, 0, free(), used(1<<20-1, v)), sheet(1, 0, used(1, 1), used(4, v)))
		x.begins(3, 1)
		x.acts("Get", 1, func() { x.gets(3, 1<<20-1, v, true) })
		x.gets(3, 0, 0, false)
		x.gets(3, 4, v, true)
		x.gets(3, 1, 1, true)
		x.gets(3, 7, 0, false)
		x.wantLog(beginOf(1, 3))
		x.wantRows(api.Row{Birth: 1, Id: 3, State: api.SOpen, Last: 1})
		x.wantKept(1, 99, 99)
		if got := x.p.Dirty(); len(got) != 0 {
			t.Errorf("dirty behind a Get: %v", got)
		}
	}
}

func TestGetTellsWhatWasPutAndDeleted(t *testing.T) { // P19.3, P19.4
	x := made(t, wide())
	x.begins(3, 1)
	x.puts(3, 0, 7)
	x.gets(3, 0, 7, true)
	x.puts(3, 3, 0)
	x.gets(3, 3, 0, true)
	x.puts(3, 0, math.MaxUint64)
	x.gets(3, 0, math.MaxUint64, true)
	x.gets(3, 3, 0, true)
	x.deletes(3, 0, true)
	x.gets(3, 0, 0, false)
	x.gets(3, 3, 0, true)
	x.puts(3, 6, 9)
	x.gets(3, 6, 9, true)
	x.commits(3)
	if _, e := x.begin(4); e != api.OK {
		t.Fatalf("Begin: %d", e)
	}
	x.gets(4, 6, 9, true)
	x.gets(4, 0, 0, false)
	x.gets(4, 3, 0, true)
}

// change is a put or a delete in the first slot of a page of one slot, from what it has; n is its length, from where it begins in the slot.
type change struct {
	was     []byte
	key     int
	v       uint64
	gone    bool
	from, n int
}

func (c change) will() []byte {
	if c.gone {
		return free()
	}
	return used(c.key, c.v)
}

func changes() []change {
	all := []change{
		{free(), 0, 0, false, 0, 1},
		{free(), 8, 0, false, 0, 5},
		{free(), 256, 0, false, 0, 6},
		{free(), 1 << 16, 0, false, 0, 7},
		{free(), 1<<20 - 1, 0, false, 0, 7},
		{used(0, 0), 0, 0, true, 0, 1},
		{used(8, 0), 8, 0, true, 0, 5},
		{used(256, 0), 256, 0, true, 0, 6},
		{used(1<<20-1, 0), 1<<20 - 1, 0, true, 0, 7},
		{used(8, 0x0102030405060708), 8, 0x1102030405060718, false, 8, 8},
		{used(8, 0x0102030405060708), 8, 0x0102030405060718, false, 8, 1},
		{used(8, 0x0102030405060708), 8, 0x0102031415060708, false, 11, 2},
		{append([]byte{0}, used(8, 9)[1:]...), 8, 9, false, 0, 1},          // a free slot need not be zeros
		{append([]byte{1, 0, 3, 0}, used(8, 9)[4:]...), 8, 9, false, 2, 1}, // nor the second to fourth byte of a used one
		{append([]byte{1, 0, 3, 0}, used(8, 9)[4:]...), 8, 9, true, 0, 9},
	}
	for i := range 8 {
		v := uint64(1) << (8*i + 7)
		all = append(all,
			change{free(), 0, v, false, 0, 9 + i},
			change{used(7, v), 7, v, true, 0, 9 + i},
			change{used(7, 0), 7, v, false, 8 + i, 1},
			change{used(7, 1), 7, v + 1, false, 8 + i, 1},
			change{used(7, v), 7, v | 1, false, 8, 1},
		)
		if i > 0 {
			all = append(all, change{used(7, 0), 7, v | 1, false, 8, i + 1})
		}
	}
	return all
}

func (c change) on(t *testing.T, base, area int) *world {
	t.Helper()
	s := setup{shape: api.Shape{Pages: 1, Slots: 1, Log: 1024}, frames: 2, table: 1, keys: 1 << 20, area: area, base: base}
	x := holding(t, s, sheet(0, base, c.was))
	x.begins(3, base+1)
	return x
}

func (c change) do(x *world) api.Errno {
	if !c.gone {
		return x.w.Put(3, c.key, c.v, 0)
	}
	there, e := x.delete(3, c.key, 0)
	if there != (e == api.OK) {
		x.t.Errorf("Delete(3, %d): %v, %d", c.key, there, e)
	}
	return e
}

// Each length of a change, with room to the last byte, and with one byte less.
func TestEachLengthOfAChange(t *testing.T) { // P19.4, P19.6, P19.7
	for _, base := range []int{0, 5, 100000} {
		for _, c := range changes() {
			area := 34 + 99 + 38 + 2*c.n + 46 + c.n
			x := c.on(t, base, area)
			if e := c.do(x); e != api.OK {
				t.Errorf("%v: %d", c, e)
				continue
			}
			lsn := base + 35
			x.wantLog(beginOf(base+1, 3), updateOf(lsn, base+1, base+1, 0, 16+c.from, c.was[c.from:c.from+c.n], c.will()[c.from:c.from+c.n]))
			x.wantRows(api.Row{Birth: base + 1, Id: 3, State: api.SOpen, Last: lsn, Next: lsn})
			x.wantKept(base+1, 99+46+c.n, 99+46+c.n)
			x.wantPage(0, sheet(0, lsn, c.will()))
			if got := x.p.Dirty(); !slices.Equal(got, []api.Rec{{Page: 0, Lsn: lsn}}) {
				t.Errorf("%v: dirty %v", c, got)
			}
			if x.l.Bytes() != 34+38+2*c.n || x.l.Flushed() != base+1 {
				t.Errorf("%v: %d bytes, flushed up to %d", c, x.l.Bytes(), x.l.Flushed())
			}
			x.commits(3)

			x = c.on(t, base, area-1)
			x.refused("a change without room", api.ErrLog, func() api.Errno { return c.do(x) })
			x.wantHolder(0, 0)
			x.gets(3, c.key, uint64Of(c.was), c.was[0] == 1)
			x.refused("a change without room", api.ErrLog, func() api.Errno { return c.do(x) })
			x.wantHolder(0, base+1)
			x.commits(3)
		}
	}
}

func uint64Of(slot []byte) uint64 {
	v := uint64(0)
	for i := 15; i >= 8 && slot[0] == 1; i-- {
		v = v<<8 | uint64(slot[i])
	}
	return v
}

// A put of what is there, and a delete of what is not, change nothing, with room or without.
func TestAlikeIsNotLogged(t *testing.T) { // P19.4
	for _, c := range changes() {
		for _, room := range []int{0, 500} {
			x := change{was: c.will()}.on(t, 0, 34+99+room)
			was := x.state()
			if c.gone {
				x.deletes(3, c.key, false)
			} else {
				x.puts(3, c.key, c.v)
			}
			x.wantHolder(0, 1)
			x.k.Give(0)
			if now := x.state(); len(now.lines) != 1 || now.bytes != was.bytes || now.kept != was.kept || len(x.p.Dirty()) != 0 {
				t.Errorf("%v: %v became %v", c, was, now)
			}
			x.wantRows(api.Row{Birth: 1, Id: 3, State: api.SOpen, Last: 1})
			x.wantPage(0, sheet(0, 0, c.will()))
		}
	}
}

// Each update's Prev is the transaction's last record, whatever others append between.
func TestUpdatesAreChained(t *testing.T) { // P19.4, P19.5
	x := made(t, wide())
	x.begins(3, 1)
	x.begins(4, 35)
	x.puts(3, 3, 5)        // 69: 9 bytes
	x.puts(4, 1, 0)        // 125: 5 bytes
	x.puts(3, 0, 0)        // 173: 1 byte, into the second slot
	x.puts(3, 2, 0)        // 213: another page, 5 bytes
	x.deletes(3, 3, true)  // 261: 9 bytes
	x.puts(4, 1, 1<<63)    // 317: 1 byte
	x.puts(3, 6, 0)        // 357: into slot 0, which is free again: 5 bytes
	x.deletes(4, 4, false) // nothing
	x.gets(4, 1, 1<<63, true)
	x.wantLog(
		beginOf(1, 3), beginOf(35, 4),
		updateOf(69, 1, 1, 0, 16, free()[:9], used(3, 5)[:9]),
		updateOf(125, 35, 35, 1, 16, free()[:5], used(1, 0)[:5]),
		updateOf(173, 1, 69, 0, 32, []byte{0}, []byte{1}),
		updateOf(213, 1, 173, 2, 16, free()[:5], used(2, 0)[:5]),
		updateOf(261, 1, 213, 0, 16, used(3, 5)[:9], free()[:9]),
		updateOf(317, 35, 125, 1, 31, []byte{0}, []byte{0x80}),
		updateOf(357, 1, 261, 0, 16, free()[:5], used(6, 0)[:5]),
	)
	x.wantRows(api.Row{Birth: 1, Id: 3, State: api.SOpen, Last: 357, Next: 357}, api.Row{Birth: 35, Id: 4, State: api.SOpen, Last: 317, Next: 317})
	x.wantKept(1, 99+5*46+9+1+5+9+5, 2*99+7*46+9+5+1+5+9+1+5)
	x.wantPage(0, sheet(0, 357, used(6, 0), used(0, 0)))
	x.wantPage(1, sheet(1, 317, used(1, 1<<63), free()))
	x.wantPage(2, sheet(2, 213, used(2, 0), free()))
	x.commits(3)
	x.wantLast(endOf(405+33, 1, 405))
	x.puts(4, 0, 1) // n 1: 00 becomes 01 at 40
	x.wantLast(updateOf(471, 35, 317, 0, 40, []byte{0}, []byte{1}))
	x.wantPage(0, sheet(0, 471, used(6, 0), used(0, 1)))
}

// The rec of a dirty page is that of its first change since it was clean.
func TestDirty(t *testing.T) { // P19.4
	x := made(t, wide())
	x.begins(3, 1)
	x.puts(3, 0, 0)
	x.puts(3, 0, 1)
	x.puts(3, 1, 0)
	if got := x.p.Dirty(); !slices.Equal(got, []api.Rec{{Page: 0, Lsn: 35}, {Page: 1, Lsn: 115}}) {
		t.Errorf("dirty: %v", got)
	}
	ok(t, "Clean", x.p.Clean(0))
	lsn := x.l.End()
	x.deletes(3, 0, true)
	if got := x.p.Dirty(); !slices.Equal(got, []api.Rec{{Page: 0, Lsn: lsn}, {Page: 1, Lsn: 115}}) {
		t.Errorf("dirty: %v", got)
	}
}

func TestFull(t *testing.T) { // P19.4, P19.7
	for slots := 1; slots <= 8; slots++ {
		s := wide()
		s.shape.Slots = slots
		x := made(t, s)
		x.begins(3, 1)
		for i := range slots {
			x.puts(3, 3*i, uint64(i))
		}
		x.refused("Put", api.ErrFull, func() api.Errno { return x.w.Put(3, 3*slots, 1, 0) })
		x.wantHolder(0, 1)
		x.puts(3, 0, 77) // what is there may have another value
		x.deletes(3, 3*(slots-1), true)
		x.puts(3, 3*slots, 1)
		x.refused("Put", api.ErrFull, func() api.Errno { return x.w.Put(3, 3*(slots-1), 1, 0) })
		x.commits(3)
		if _, e := x.begin(4); e != api.OK {
			t.Fatalf("Begin: %d", e)
		}
		x.refused("Put", api.ErrFull, func() api.Errno { return x.w.Put(4, 3*(slots-1), 1, 0) })
		x.wantHolder(0, 0)
	}
}

// Behind an ErrLog the transaction is open still, and what needs less room may go on.
func TestLessMayFit(t *testing.T) { // P19.4, P19.7
	s := wide()
	s.area = 34 + 99 + (38 + 2 + 46 + 1)
	x := made(t, s)
	x.begins(3, 1)
	x.refused("Put", api.ErrLog, func() api.Errno { return x.w.Put(3, 1, 0, 0) })
	x.wantHolder(1, 0)
	x.puts(3, 0, 0)
	x.refused("Put", api.ErrLog, func() api.Errno { return x.w.Put(3, 0, 1, 0) })
	x.wantHolder(0, 1)
	x.refused("Delete", api.ErrLog, func() api.Errno {
		_, e := x.delete(3, 0, 0)
		return e
	})
	x.gets(3, 0, 0, true)
	x.commits(3)
}

// What a commit lets go of may be used by those that are open.
func TestRoomOfTheCommitted(t *testing.T) { // P19.4, P19.5
	s := wide()
	s.area = 2*34 + 2*99 + (38 + 2 + 46 + 1) // of 3's 99 66 are used, and 33 are free; its 47 besides
	x := made(t, s)
	x.begins(3, 1)
	x.begins(4, 35)
	x.puts(3, 0, 0)
	x.refused("Put", api.ErrLog, func() api.Errno { return x.w.Put(4, 1, 0, 0) })
	x.commits(3)
	x.refused("Put", api.ErrLog, func() api.Errno { return x.w.Put(4, 1, 0, 0) })
	x.refused("Put", api.ErrLog, func() api.Errno { return x.w.Put(4, 0, 1, 0) })
	x.commits(4)
	if _, e := x.begin(5); e != api.ErrLog {
		t.Errorf("Begin: %d", e)
	}
	s.area += 7 // 33 + 47 + 7 is what a change of one byte needs
	x = made(t, s)
	x.begins(3, 1)
	x.begins(4, 35)
	x.puts(3, 0, 0)
	x.refused("Put", api.ErrLog, func() api.Errno { return x.w.Put(4, 1, 0, 0) })
	x.commits(3)
	x.puts(4, 0, 1)
	x.commits(4)
}

// A page of an LSN that the log has not come to yet cannot be changed: no run leaves one, and nothing is appended.
func TestPageAheadOfTheLog(t *testing.T) { // P19.4, P19.7
	for lsn, want := range map[int]api.Errno{0: api.OK, 33: api.OK, 34: api.OK, 35: api.ErrLsn, 36: api.ErrLsn, 1 << 60: api.ErrLsn} {
		x := holding(t, small(), sheet(0, lsn, used(8, 1), free()))
		x.begins(3, 1)
		put := func() api.Errno { return x.w.Put(3, 8, 2, 0) }
		if want == api.OK {
			ok(t, "Put", put())
			x.wantPage(0, sheet(0, 35, used(8, 2), free()))
			continue
		}
		x.refused("Put", want, put)
		x.refused("Delete", want, func() api.Errno {
			_, e := x.delete(3, 8, 0)
			return e
		})
		x.wantHolder(0, 0)
		x.gets(3, 8, 1, true)
	}
}

// fill appends others' records till fewer than so many bytes of the log area are left.
func (x *world) fill(left int) {
	x.t.Helper()
	for x.l.Bytes()+left <= x.s.shape.Log {
		if _, e := x.l.Append(api.Record{Kind: api.KCommit, Birth: 1, Prev: 1}); e != api.OK {
			x.t.Fatalf("Append: %d", e)
		}
	}
}

// A Room that is greater than the log area does not make the log's bytes more.
func TestRoomGreaterThanTheLog(t *testing.T) { // P19.1, P19.4, P19.5, P19.7
	s := small()
	s.area = 1 << 20
	x := made(t, s)
	x.fill(34)
	x.noBegin(3, api.ErrRoom)
	x = made(t, s)
	x.begins(3, 1)
	x.fill(33)
	x.refused("Put", api.ErrRoom, func() api.Errno { return x.w.Put(3, 0, 5, 0) })
	x.wantHolder(0, 0)
	x.refused("Commit", api.ErrRoom, func() api.Errno { return x.w.Commit(3) })
	x = made(t, s)
	x.begins(3, 1)
	x.fill(33 + 33)
	lsn := x.l.End()
	x.commits(3)
	x.wantLast(commitOf(lsn, 1, 1))
	x.wantRows()
	if got := x.d.Lasts().Log; len(got) != lsn-1+33 {
		t.Errorf("of the log %d bytes last", len(got))
	}
}

func TestCommit(t *testing.T) { // P19.5
	for _, base := range []int{0, 100000} {
		s := wide()
		s.base, s.frames = base, 3
		x := made(t, s)
		x.begins(3, base+1)
		x.begins(4, base+35)
		x.puts(3, 0, 0) // 69, 40 bytes
		x.gets(3, 2, 0, false)
		x.gets(4, 1, 0, false)
		x.acts("Commit", 2, func() { x.commits(3) }) // Append, SyncLog
		x.wantLog(beginOf(base+1, 3), beginOf(base+35, 4), updateOf(base+69, base+1, base+1, 0, 16, []byte{0}, []byte{1}), commitOf(base+109, base+1, base+69), endOf(base+142, base+1, base+109))
		if x.l.Flushed() != base+142 || x.l.End() != base+175 {
			t.Errorf("flushed up to %d, End %d: the end record is not flushed", x.l.Flushed(), x.l.End())
		}
		if got := x.d.Lasts().Log; len(got) != 141 {
			t.Errorf("of the log %d bytes last", len(got))
		}
		x.wantRows(api.Row{Birth: base + 35, Id: 4, State: api.SOpen, Last: base + 35})
		x.wantKept(base+1, 0, 99)
		x.wantKept(base+35, 99, 99)
		for n, want := range []int{0, base + 35, 0} {
			x.wantHolder(n, want)
		}
		x.wantPage(0, sheet(0, base+69, used(0, 0), free()))
		if got := x.p.Dirty(); !slices.Equal(got, []api.Rec{{Page: 0, Lsn: base + 69}}) {
			t.Errorf("dirty: %v", got)
		}
		x.refused("Commit again", api.ErrTxn, func() api.Errno { return x.w.Commit(3) })
		x.begins(3, base+175)
	}
}

// A commit of a transaction that wrote nothing is logged and flushed like any other.
func TestCommitOfNothing(t *testing.T) { // P19.5
	x := made(t, small())
	x.begins(3, 1)
	x.acts("Commit", 2, func() { x.commits(3) })
	x.wantLog(beginOf(1, 3), commitOf(35, 1, 1), endOf(68, 1, 35))
	x.wantRows()
	x.wantKept(1, 0, 0)
	x.acts("Begin", 0, func() { x.begins(3, 101) })
	x.acts("Commit", 2, func() { x.commits(3) })
	x.wantLast(endOf(168, 101, 135))
}

func TestCommitOfNoTransaction(t *testing.T) { // P19.5, P19.7
	x := made(t, small())
	x.begins(3, 1)
	x.puts(3, 8, 5)
	for _, id := range append(noIds(), 1, 2, 4, 64) {
		x.acts("Commit", 0, func() {
			x.refused("Commit", api.ErrTxn, func() api.Errno { return x.w.Commit(id) })
		})
	}
}

// A log that is full to what is kept has room for each commit.
func TestCommitsNeverLackRoom(t *testing.T) { // P19.5, P19.6
	s := small()
	s.table = 8
	for _, step := range []uint64{1, 1 << 40, 1<<56 + 1} {
		for open := 1; open <= 2; open++ {
			x := made(t, s)
			for i := range open {
				x.begins(i+1, 34*i+1)
			}
			full := 0
			for v := step; full < open; v += step {
				for i := range open {
					switch e := x.w.Put(i+1, i, v, 0); e {
					case api.ErrLog:
						full++
					case api.OK:
						full = 0
					default:
						t.Fatalf("Put: %d", e)
					}
				}
				if x.l.Bytes()+x.r.Kept() > 1024 {
					t.Fatalf("%d bytes and %d kept of 1024", x.l.Bytes(), x.r.Kept())
				}
			}
			for i := range open {
				x.commits(i + 1)
			}
			x.wantKept(1, 0, 0)
		}
	}
}

// The sizes that the chapter names are those of the frames that are appended.
func TestFramesHaveTheirSizes(t *testing.T) { // P19.1, P19.4, P19.5
	x := made(t, wide())
	x.begins(3, 1)
	x.puts(3, 1<<20-1, math.MaxUint64)
	x.commits(3)
	all := x.lines()
	for i, want := range []int{34, 38 + 2*16, 33, 33} {
		if got := frame.Size(record.Size(all[i].r)); got != want {
			t.Errorf("the frame of %v has %d bytes, want %d", all[i], got, want)
		}
	}
	if len(all) != 4 || x.l.Bytes() != 34+70+66 {
		t.Errorf("%d records, %d bytes", len(all), x.l.Bytes())
	}
}

// Two Writers on two disks have nothing in common.
func TestTwoWriters(t *testing.T) { // P19.1 to P19.5
	x, y := made(t, small()), made(t, small())
	x.begins(3, 1)
	y.begins(3, 1)
	x.puts(3, 8, 5)
	y.gets(3, 8, 0, false)
	x.commits(3)
	y.wantRows(api.Row{Birth: 1, Id: 3, State: api.SOpen, Last: 1})
	y.wantLog(beginOf(1, 3))
}

func TestExamples(t *testing.T) { // P19.1 to P19.5, the chapter's examples
	x := made(t, small())
	x.begins(3, 1)
	for _, id := range []int{3, 0, 65} {
		x.noBegin(id, api.ErrTxn)
	}
	x.begins(4, 35)
	x.noBegin(5, api.ErrTable)
	x.noBegin(3, api.ErrTxn)

	x.gets(3, 8, 0, false)
	x.refused("Put", api.ErrBusy, func() api.Errno { return x.w.Put(4, 10, 5, 0) })
	x.refused("Put", api.ErrKey, func() api.Errno { return x.w.Put(4, 100, 5, 0) })
	x.refused("Put", api.ErrTxn, func() api.Errno { return x.w.Put(9, 100, 5, 0) })
	x.puts(4, 7, 5)
	x.wantLast(updateOf(69, 35, 35, 1, 16, free()[:9], []byte{1, 0, 0, 0, 7, 0, 0, 0, 5}))
	if x.l.End() != 69+56 {
		t.Errorf("End: %d", x.l.End())
	}
	x.puts(4, 7, 5)
	if x.l.End() != 69+56 {
		t.Errorf("End: %d", x.l.End())
	}

	x.puts(4, 9, 1)
	x.refused("Put", api.ErrFull, func() api.Errno { return x.w.Put(4, 11, 1, 0) })
	x.wantHolder(1, 35)
	x.deletes(4, 13, false)
	x.deletes(4, 7, true)

	lsn := x.l.End()
	x.puts(3, 0, 0)
	x.wantLast(updateOf(lsn, 1, 1, 0, 16, []byte{0}, []byte{1}))

	x.commits(4)
	x.gets(3, 7, 0, false)
	x.refused("Commit", api.ErrTxn, func() api.Errno { return x.w.Commit(4) })

	s := small()
	s.table = 8
	x = made(t, s)
	for id := 1; id <= 7; id++ {
		x.begins(id, 34*(id-1)+1)
	}
	x.noBegin(8, api.ErrLog)
}
