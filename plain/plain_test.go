package plain_test

import (
	"math"
	"slices"
	"testing"

	"tidemark/api"
	"tidemark/frame"
	"tidemark/home"
	"tidemark/image"
	"tidemark/page"
	"tidemark/plain"
	"tidemark/record"
)

// fields give the configuration with another number in one of its fields, and what that field may be.
func fields(n int) []struct {
	name        string
	c           api.Config
	least, most int
} {
	return []struct {
		name        string
		c           api.Config
		least, most int
	}{
		{"Pages", config(n, 2, 1024, 2, 2, 100), 1, mostPages},
		{"Slots", config(2, n, 1024, 2, 2, 100), 1, mostSlots},
		{"Log", config(2, 2, n, 2, 2, 100), leastLog, mostLog},
		{"Frames", config(2, 2, 1024, n, 2, 100), 2, mostFrames},
		{"Table", config(2, 2, 1024, 2, n, 100), 1, mostTable},
		{"Keys", config(2, 2, 1024, 2, 2, n), 1, mostKeys},
	}
}

// P18.1: each field of a configuration at its edges, and at numbers that a narrower one would fold back on right ones.
func TestNew(t *testing.T) {
	numbers := []int{0, 1, 2, 3, -1, -2, 5, 7, 8, 9, 15, 16, 17, 100, 1023, 1024, 1025, 65535, 65536, 65537, 1048575, 1048576, 1048577, 256 + 2, 1<<32 + 2, 1<<32 + 1024, math.MaxInt, math.MinInt, math.MinInt + 2, math.MinInt + 1024}
	for _, n := range numbers {
		for _, f := range fields(n) {
			s, e := plain.New(f.c)
			if right := n >= f.least && n <= f.most; right && (s == nil || e != 0) || !right && (s != nil || e != 260) {
				t.Errorf("New with %s %d: %v, %d", f.name, n, s != nil, e)
			}
		}
	}
	if s, e := plain.New(api.Config{}); s != nil || e != 260 {
		t.Errorf("New of nothing: %d", e)
	}
	// The greatest and the least of all fields at once.
	begin(t, config(mostPages, mostSlots, mostLog, mostFrames, mostTable, mostKeys)).is()
	begin(t, config(1, 1, leastLog, 2, 1, 1)).is()
}

// P18.1: what a new state tells.
func TestNewIsEmpty(t *testing.T) {
	s, _ := plain.New(small())
	if a, b := s.Used(); a != 0 || b != 0 {
		t.Errorf("Used(): %d, %d", a, b)
	}
	if l, e := s.Entries(); len(l) != 0 || e != 0 {
		t.Errorf("Entries(): %v, %d", l, e)
	}
	if len(s.Ids()) != 0 || len(s.Done()) != 0 {
		t.Errorf("Ids(): %v, Done(): %v", s.Ids(), s.Done())
	}
	for key := range 100 {
		if e := s.Begin(1); e != 0 {
			t.Fatalf("Begin(1): %d", e)
		}
		if v, there, e := s.Get(1, key); v != 0 || there || e != 0 {
			t.Errorf("Get(1, %d): %d, %v, %d", key, v, there, e)
		}
		s.Abort(1)
		s.Renew()
	}
}

// The chapter's examples 1 to 4, told without the model.
func TestExamples(t *testing.T) {
	for i, c := range []api.Config{config(2, 2, 1024, 2, 2, 0), config(2, 2, 1024, 2, 9, 100), config(2, 2, 1024, 1, 2, 100), config(2, 2, 1023, 2, 2, 100)} {
		if s, e := plain.New(c); s != nil || e != api.ErrConfig {
			t.Errorf("example 1, row %d: %d", i, e)
		}
	}
	s, _ := plain.New(small())
	errnos := func(example int, is []api.Errno, want ...api.Errno) {
		t.Helper()
		if !slices.Equal(is, want) {
			t.Errorf("example %d: %v, want %v", example, is, want)
		}
	}
	used := func(a, b int) {
		t.Helper()
		if x, y := s.Used(); x != a || y != b {
			t.Errorf("Used(): %d, %d, want %d, %d", x, y, a, b)
		}
	}
	errnos(2, []api.Errno{s.Begin(3), s.Begin(4), s.Begin(5), s.Begin(3)}, 0, 0, api.ErrTable, api.ErrTxn)
	used(68, 198)
	errnos(2, []api.Errno{s.Put(3, 8, 5)}, 0)
	used(124, 253)
	errnos(2, []api.Errno{s.Put(3, 8, 5)}, 0)
	used(124, 253)
	errnos(2, []api.Errno{s.Put(3, 8, 6)}, 0)
	used(164, 300)
	_, _, busy := s.Get(4, 8)
	v, there, e := s.Get(4, 7)
	_, _, other := s.Get(3, 9)
	errnos(2, []api.Errno{busy, e, other}, api.ErrBusy, 0, api.ErrBusy)
	if v != 0 || there {
		t.Errorf("Get(4, 7): %d, %v", v, there)
	}
	errnos(3, []api.Errno{s.Put(3, 10, 0), s.Put(3, 12, 0)}, 0, api.ErrFull)
	used(164+48, 300+51)
	there, e = s.Delete(3, 8)
	errnos(3, []api.Errno{e}, 0)
	if !there {
		t.Error("Delete(3, 8): false")
	}
	used(212+56, 351+55)
	errnos(3, []api.Errno{s.Put(3, 0, 0)}, 0)
	used(268+40, 406+47)
	errnos(4, []api.Errno{s.Commit(3)}, 0)
	used(308+66, 99)
	l, e := s.Entries()
	errnos(4, []api.Errno{e, s.Abort(4)}, api.ErrOpen, 0)
	if len(l) != 0 {
		t.Errorf("Entries() beside ErrOpen: %v", l)
	}
	used(374+66, 0)
	if l, e := s.Entries(); e != 0 || !slices.Equal(l, []api.Entry{pair(0, 0), pair(10, 0)}) {
		t.Errorf("Entries(): %v, %d", l, e)
	}
	want := []plain.Change{put(8, 5), put(8, 6), put(10, 0), gone(8), put(0, 0)}
	if d := s.Done(); len(d) != 1 || !slices.Equal(d[0], want) {
		t.Errorf("Done(): %v", d)
	}
}

// The chapter's examples 5 and 6.
func TestMoreExamples(t *testing.T) {
	s, _ := plain.New(config(2, 2, 1024, 2, 8, 100))
	for id := 1; id <= 7; id++ {
		if e := s.Begin(id); e != 0 {
			t.Errorf("Begin(%d): %d", id, e)
		}
	}
	if e := s.Begin(8); e != api.ErrLog {
		t.Errorf("Begin(8): %d", e)
	}
	if l := plain.Fold([]plain.Change{put(1, 5)}, []plain.Change{gone(1), put(2, 7)}); !slices.Equal(l, []api.Entry{pair(2, 7)}) {
		t.Errorf("Fold: %v", l)
	}
	if l := plain.Fold(); len(l) != 0 {
		t.Errorf("Fold(): %v", l)
	}
	s, _ = plain.New(small())
	e := s.Checkpoint(-3)
	if a, b := s.Used(); e != 0 || a != 35 || b != 0 {
		t.Errorf("Checkpoint(-3): %d; Used(): %d, %d", e, a, b)
	}
}

// P18.2: which numbers may be; each stays open, and is refused till it is over.
func TestBegin(t *testing.T) {
	for id := 1; id <= mostId; id++ {
		w := begin(t, small(), id)
		if e := w.begin(id); e != 160 {
			t.Errorf("Begin(%d) twice: %d", id, e)
		}
		w.is()
		if w.holds(0) || w.holds(1) {
			t.Errorf("Begin(%d) holds a page", id)
		}
		w.commit(id)
		if e := w.begin(id); e != 0 {
			t.Errorf("Begin(%d) behind its commit: %d", id, e)
		}
		w.abort(id)
		if e := w.begin(id); e != 0 {
			t.Errorf("Begin(%d) behind its abort: %d", id, e)
		}
		w.is()
	}
	for _, id := range noIds() {
		w := begin(t, small())
		if e := w.begin(id); e != 160 {
			t.Errorf("Begin(%d): %d", id, e)
		}
		w.is()
	}
}

// P18.2: tables of each size are full with so many, and with no less.
func TestTable(t *testing.T) {
	for most := 1; most <= mostTable; most++ {
		c := wide()
		c.Table = most
		w := begin(t, c)
		for id := range most {
			if e := w.begin(mostId - id); e != 0 {
				t.Errorf("Begin %d of %d: %d", id+1, most, e)
			}
		}
		if e := w.begin(1); e != 161 {
			t.Errorf("Begin in a table of %d: %d", most, e)
		}
		w.is()
		w.commit(mostId)
		if e := w.begin(1); e != 0 {
			t.Errorf("Begin behind a commit in a table of %d: %d", most, e)
		}
		w.is()
	}
}

// P18.2: ErrTxn is ahead of ErrTable, and this ahead of ErrLog.
func TestBeginOrder(t *testing.T) {
	c := config(2, 2, leastLog, 2, 7, 100)
	w := begin(t, c, 1, 2, 3, 4, 5, 6, 7) // neither a row nor bytes are left
	for _, id := range append(noIds(), 1, 7) {
		if e := w.begin(id); e != 160 {
			t.Errorf("Begin(%d): %d", id, e)
		}
	}
	if e := w.begin(8); e != 161 {
		t.Errorf("Begin(8): %d", e)
	}
	w.is()
}

// calls are those that look for ErrTxn, ErrKey and ErrBusy.
func calls() []func(w *world, id, key int) api.Errno {
	return []func(w *world, id, key int) api.Errno{
		func(w *world, id, key int) api.Errno { _, _, e := w.get(id, key); return e },
		func(w *world, id, key int) api.Errno { return w.put(id, key, 7) },
		func(w *world, id, key int) api.Errno { _, e := w.delete(id, key); return e },
	}
}

// P18.3: the three errors that all look for, and their order.
func TestLooksFor(t *testing.T) {
	for i, call := range calls() {
		w := begin(t, small(), 3, 4)
		w.put(4, 8, 5)
		for _, id := range append(noIds(), 1, 2, 5, mostId) {
			for _, key := range append(noKeys(100), 0, 1, 8, 99) {
				if e := call(w, id, key); e != 160 {
					t.Errorf("call %d of %d, %d: %d", i, id, key, e)
				}
			}
		}
		for _, key := range noKeys(100) {
			if e := call(w, 3, key); e != 50 {
				t.Errorf("call %d of 3, %d: %d", i, key, e)
			}
		}
		for _, key := range []int{0, 2, 8, 98} {
			if e := call(w, 3, key); e != 150 {
				t.Errorf("call %d of 3, %d: %d", i, key, e)
			}
		}
		for _, key := range []int{1, 99} {
			if e := call(w, 3, key); e != 0 {
				t.Errorf("call %d of 3, %d: %d", i, key, e)
			}
		}
		w.is()
	}
}

// P18.3: keys are from 0 to Keys - 1, however many there are.
func TestKeys(t *testing.T) {
	for _, keys := range []int{1, 2, 3, 255, 256, 257, 65536, mostKeys - 1, mostKeys} {
		for _, call := range calls() {
			c := wide()
			c.Keys = keys
			w := begin(t, c, 3)
			for _, key := range noKeys(keys) {
				if e := call(w, 3, key); e != 50 {
					t.Errorf("of %d keys: %d: %d", keys, key, e)
				}
			}
			for _, key := range []int{0, keys / 2, keys - 1} {
				if e := call(w, 3, key); e != 0 {
					t.Errorf("of %d keys: %d: %d", keys, key, e)
				}
			}
			w.is()
			w.commit(3)
			w.is()
		}
	}
}

// P18.3: ErrBusy is a page's: the key modulo Pages.
func TestPages(t *testing.T) {
	for pages := 1; pages <= mostPages; pages++ {
		for held := range 2 * mostPages {
			c := wide()
			c.Shape.Pages = pages
			w := begin(t, c, 3, 4)
			w.get(3, held)
			for key := range 40 {
				if _, _, e := w.get(4, key); (e == 150) != (key%pages == held%pages) {
					t.Errorf("%d pages, %d held: Get(4, %d): %d", pages, held, key, e)
				}
			}
		}
	}
}

// P18.3: a page is held behind each OK, and behind "not there".
func TestHeld(t *testing.T) {
	for i, c := range []struct {
		name string
		call func(w *world) api.Errno
		want api.Errno
	}{
		{"Get of a value", func(w *world) api.Errno { _, _, e := w.get(3, 8); return e }, 0},
		{"Get of none", func(w *world) api.Errno { _, _, e := w.get(3, 4); return e }, 0},
		{"Put of another value", func(w *world) api.Errno { return w.put(3, 8, 6) }, 0},
		{"Put of the same value", func(w *world) api.Errno { return w.put(3, 8, 5) }, 0},
		{"Put of a new key", func(w *world) api.Errno { return w.put(3, 4, 0) }, 0},
		{"Delete", func(w *world) api.Errno { _, e := w.delete(3, 8); return e }, 0},
		{"Delete of none", func(w *world) api.Errno { _, e := w.delete(3, 4); return e }, 0},
		{"Put into a full page", func(w *world) api.Errno { return w.put(3, 5, 1) }, 42},
		{"Get of a wrong key", func(w *world) api.Errno { _, _, e := w.get(3, 100); return e }, 50},
		{"Put of a wrong key", func(w *world) api.Errno { return w.put(3, -2, 1) }, 50},
		{"Delete of a wrong key", func(w *world) api.Errno { _, e := w.delete(3, 101); return e }, 50},
		{"Put by none", func(w *world) api.Errno { return w.put(5, 8, 5) }, 160},
	} {
		w := begin(t, config(2, 2, mostLog, 2, 3, 100), 1)
		w.put(1, 8, 5)
		w.put(1, 1, 5)
		w.put(1, 3, 5)
		w.commit(1)
		w.begin(3)
		if e := c.call(w); e != c.want {
			t.Errorf("row %d, %s: %d, want %d", i, c.name, e, c.want)
		}
		if held := w.holds(8); held != (c.want == 0) {
			t.Errorf("row %d, %s: page 0 held: %v", i, c.name, held)
		}
		if w.holds(1) {
			t.Errorf("row %d, %s: page 1 is held", i, c.name)
		}
		w.is()
		// Held already, it stays so behind an error.
		for _, key := range []int{1, 8} {
			w.get(3, key)
			if e := c.call(w); e != c.want {
				t.Errorf("row %d, %s: %d, want %d", i, c.name, e, c.want)
			}
			if !w.holds(key) {
				t.Errorf("row %d, %s: the page of %d is not held any more", i, c.name, key)
			}
		}
		w.is()
	}
}

// P18.3: a page that another holds is not held behind ErrBusy, and its holder keeps it.
func TestBusyHoldsNothing(t *testing.T) {
	for i, call := range calls() {
		w := begin(t, config(2, 2, mostLog, 2, 4, 100), 3, 4)
		w.put(3, 8, 5)
		if e := call(w, 4, 8); e != 150 {
			t.Errorf("call %d: %d", i, e)
		}
		if !w.holds(8) {
			t.Errorf("call %d: 3 holds page 0 no more", i)
		}
		w.abort(3)
		if w.holds(8) {
			t.Errorf("call %d: 4 holds page 0", i)
		}
		w.is()
	}
}

// P18.3: pages of each size are full with so many keys; a key that is there may have another value; a deleted one makes room.
func TestFull(t *testing.T) {
	for slots := 1; slots <= mostSlots; slots++ {
		c := wide()
		c.Shape.Slots = slots
		w := begin(t, c, 3)
		for i := range slots {
			if e := w.put(3, 16*i, 0); e != 0 {
				t.Errorf("key %d of %d: %d", i+1, slots, e)
			}
		}
		if e := w.put(3, 16*slots, 0); e != 42 {
			t.Errorf("a key more than %d: %d", slots, e)
		}
		w.is()
		if e := w.put(3, 16*slots+1, 0); e != 0 {
			t.Errorf("a key of another page: %d", e)
		}
		if e := w.put(3, 0, 9); e != 0 {
			t.Errorf("a key that is there: %d", e)
		}
		w.commit(3)
		w.begin(4)
		if e := w.put(4, 16*slots, 0); e != 42 {
			t.Errorf("a key more than %d committed ones: %d", slots, e)
		}
		if there, e := w.delete(4, 0); !there || e != 0 {
			t.Errorf("Delete(4, 0): %v, %d", there, e)
		}
		if e := w.put(4, 16*slots, 0); e != 0 {
			t.Errorf("a key in the place of another: %d", e)
		}
		w.is()
		w.abort(4)
		w.is()
	}
}

// P18.3: ErrFull is ahead of ErrLog, and a change of no bytes needs no room.
func TestFullAheadOfLog(t *testing.T) {
	w := begin(t, small(), 3)
	w.put(3, 8, 5)
	w.put(3, 10, 5)
	for w.checkpoint(0) == 0 {
	}
	for w.m.fits(39, 47) { // till not even the shortest update fits
		w.put(3, 8, w.m.entries(w.m.open[0].changes...)[0].Value^1)
	}
	w.is()
	if e := w.put(3, 12, 5); e != 42 {
		t.Errorf("Put into a full page and log: %d", e)
	}
	v, _, _ := w.get(3, 8)
	if e := w.put(3, 8, v); e != 0 {
		t.Errorf("Put of what is there into a full log: %d", e)
	}
	if there, e := w.delete(3, 2); there || e != 0 {
		t.Errorf("Delete of none in a full log: %v, %d", there, e)
	}
	w.is()
	if e := w.put(3, 8, v^1); e != 170 {
		t.Errorf("Put into a full log: %d", e)
	}
	w.is()
}

// P18.3: what a transaction sees: its own changes over the committed ones.
func TestSees(t *testing.T) {
	w := begin(t, wide(), 3)
	w.put(3, 8, 5)
	w.put(3, 9, 6)
	if v, there, _ := w.get(3, 8); v != 5 || !there {
		t.Errorf("its own: %d, %v", v, there)
	}
	w.delete(3, 9)
	if v, there, _ := w.get(3, 9); v != 0 || there {
		t.Errorf("its own, deleted: %d, %v", v, there)
	}
	w.put(3, 9, 0)
	if v, there, _ := w.get(3, 9); v != 0 || !there {
		t.Errorf("its own, 0: %d, %v", v, there)
	}
	w.commit(3)
	w.begin(4)
	for key, want := range map[int]uint64{8: 5, 9: 0} {
		if v, there, _ := w.get(4, key); v != want || !there {
			t.Errorf("committed, %d: %d, %v", key, v, there)
		}
	}
	w.put(4, 8, math.MaxUint64)
	if v, there, _ := w.get(4, 8); v != math.MaxUint64 || !there {
		t.Errorf("over a committed one: %d, %v", v, there)
	}
	w.abort(4)
	w.begin(5)
	if v, there, _ := w.get(5, 8); v != 5 || !there {
		t.Errorf("behind an abort: %d, %v", v, there)
	}
	w.is()
}

// values part in each of their bytes alone, at both ends, within, and in all.
func values() []uint64 {
	all := []uint64{0, 1, 255, 256, math.MaxUint64, math.MaxUint64 - 1, 0x0102030405060708, 0x0102030405060808, 0x0202030405060708, 0x0100030405060008}
	for i := range 8 {
		all = append(all, 1<<(8*i), 128<<(8*i), 255<<(8*i))
	}
	return all
}

// P18.3: the length of each change, told by the bytes that it makes Used and Kept grow by.
func TestLengths(t *testing.T) {
	for _, key := range []int{0, 1, 2, 255, 256, 257, 65535, 65536, 65537, mostKeys - 1} {
		for _, a := range values() {
			for _, b := range values() {
				w := begin(t, wide(), 3)
				w.put(3, key, a)
				w.put(3, key, b)
				w.is()
				w.delete(3, key)
				w.delete(3, key)
				w.is()
			}
		}
	}
}

// P18.3: some lengths, told by hand.
func TestLengthsByHand(t *testing.T) {
	for i, c := range []struct {
		steps []plain.Change
		n     []int
	}{
		{[]plain.Change{put(0, 0), gone(0)}, []int{1, 1}},
		{[]plain.Change{put(1, 0), gone(1)}, []int{5, 5}},
		{[]plain.Change{put(256, 0), gone(256)}, []int{6, 6}},
		{[]plain.Change{put(65536, 0), gone(65536)}, []int{7, 7}},
		{[]plain.Change{put(0, 1), put(0, 0), put(0, 256)}, []int{9, 1, 1}},
		{[]plain.Change{put(0, 1<<56), put(0, 1<<56+1), put(0, 2), put(0, 1)}, []int{16, 1, 8, 1}},
		{[]plain.Change{put(5, 0x010000), put(5, 0x020003), put(5, 0x020003), gone(5), gone(5)}, []int{11, 3, 0, 11, 0}},
	} {
		s, _ := plain.New(wide())
		s.Begin(3)
		used, kept := 34, 99
		for j, x := range c.steps {
			if x.Gone {
				s.Delete(3, x.Key)
			} else {
				s.Put(3, x.Key, x.Value)
			}
			if n := c.n[j]; n > 0 {
				used, kept = used+38+2*n, kept+46+n
			}
			if a, b := s.Used(); a != used || b != kept {
				t.Errorf("row %d, step %d: Used(): %d, %d, want %d, %d", i, j, a, b, used, kept)
			}
		}
	}
}

// framed tells the bytes of a record's frame.
func framed(r api.Record) int {
	return frame.Size(record.Size(r))
}

// P18.3: the bytes are those of the layers below: a put or delete of home's on a page, parted by image, as a record of record's in a frame of frame's.
func TestBytesAreTheLayers(t *testing.T) {
	for _, key := range []int{0, 1, 256, 65536, mostKeys - 1} {
		s, _ := plain.New(wide())
		s.Begin(3)
		number := key % mostPages
		b, _ := page.Make(number, mostSlots)
		used, kept := s.Used()
		step := func(now []byte) {
			t.Helper()
			if from, to, _ := image.Part(b, now); from < to {
				before, _ := image.Cut(b, from, to)
				after, _ := image.Cut(now, from, to)
				used += framed(api.Record{Kind: api.KUpdate, Birth: 1, Prev: 1, Page: number, From: from, Before: before, After: after})
				kept += framed(api.Record{Kind: api.KUndo, Birth: 1, Prev: 1, Page: number, From: from, After: before})
			}
			b = now
			if x, y := s.Used(); x != used || y != kept {
				t.Errorf("Used(): %d, %d, want %d, %d", x, y, used, kept)
			}
		}
		for _, v := range values() {
			s.Put(3, key, v)
			now, _ := home.Put(b, key, v)
			step(now)
			if v%3 == 0 {
				s.Delete(3, key)
				now, _ = home.Delete(b, key)
				step(now)
			}
		}
	}
}

// filled gives a state with a log of so many bytes of which checkpoints have used some.
func filled(t *testing.T, log int) *world {
	c := config(2, 2, log, 2, 8, 100)
	w := begin(t, c)
	for range 40 {
		if e := w.checkpoint(0); e != 0 {
			t.Fatalf("Checkpoint: %d", e)
		}
	}
	return w
}

// P18.2, P18.3, P18.5: what is asked for fits where it fills the log to its last byte, and not with one byte less.
func TestBrim(t *testing.T) {
	for _, c := range []struct {
		name string
		call func(w *world) api.Errno
	}{
		{"Begin", func(w *world) api.Errno { return w.begin(5) }},
		{"Put", func(w *world) api.Errno { return w.put(3, 10, 1<<60) }},
		{"Put over", func(w *world) api.Errno { return w.put(3, 8, 6) }},
		{"Delete", func(w *world) api.Errno { _, e := w.delete(3, 8); return e }},
		{"Checkpoint", func(w *world) api.Errno { return w.checkpoint(0) }},
		{"Checkpoint of one page", func(w *world) api.Errno { return w.checkpoint(1) }},
		{"Checkpoint of more", func(w *world) api.Errno { return w.checkpoint(99) }},
	} {
		ready := func(log int) *world {
			w := filled(t, log)
			w.begin(3)
			w.begin(4)
			w.put(3, 8, 5)
			w.put(4, 1, 5)
			return w
		}
		w := ready(mostLog)
		c.call(w)
		used, kept := w.s.Used()
		w = ready(used + kept)
		if e := c.call(w); e != 0 {
			t.Errorf("%s to the last byte: %d", c.name, e)
		}
		w.is()
		if a, b := w.s.Used(); a+b != used+kept {
			t.Errorf("%s: Used(): %d, %d, want %d in all", c.name, a, b, used+kept)
		}
		w = ready(used + kept - 1)
		if e := c.call(w); e != 170 {
			t.Errorf("%s with a byte less: %d", c.name, e)
		}
		w.is()
		// What is left ends well, all the same.
		for _, id := range w.s.Ids() {
			if e := w.abort(id); e != 0 {
				t.Errorf("%s: Abort(%d): %d", c.name, id, e)
			}
		}
		w.is()
	}
}

// P18.3: ErrLog of a put or delete leaves what an abort leaves.
func TestLogAborts(t *testing.T) {
	for name, call := range map[string]func(s *plain.State) api.Errno{
		"Put":    func(s *plain.State) api.Errno { return s.Put(3, 8, math.MaxUint64) },
		"Delete": func(s *plain.State) api.Errno { _, e := s.Delete(3, 8); return e },
		"Abort":  func(s *plain.State) api.Errno { s.Abort(3); return 170 },
	} {
		w := begin(t, small(), 1)
		w.put(1, 8, 3)
		w.commit(1)
		w.begin(3)
		w.begin(4)
		w.put(4, 1, 1)
		for v := uint64(4); w.m.fits(38+2*8, 46+8); v++ {
			w.put(3, 8, v)
		}
		used, _ := w.s.Used()
		_, undone := w.m.sums()
		undone -= 99 + 99 + 46 + 9
		if e := call(w.s); e != 170 {
			t.Fatalf("%s: %d", name, e)
		}
		if a, b := w.s.Used(); a != used+66+undone || b != 99+55 {
			t.Errorf("%s: Used(): %d, %d, want %d, 154", name, a, b, used+66+undone)
		}
		w.m.abort(3)
		w.is()
		for _, call := range calls() {
			if e := call(w, 3, 8); e != 160 {
				t.Errorf("%s, behind it: %d", name, e)
			}
		}
		if e := w.commit(3); e != 160 {
			t.Errorf("%s: Commit(3): %d", name, e)
		}
		w.commit(4)
		w.is()
		w.renew()
		w.begin(3)
		if v, there, _ := w.get(3, 8); v != 3 || !there {
			t.Errorf("%s: Get(3, 8): %d, %v", name, v, there)
		}
	}
}

// P18.4: commit and abort of each number that is not open.
func TestNotOpen(t *testing.T) {
	w := begin(t, small(), 3, 4)
	w.commit(4)
	for _, id := range append(noIds(), 1, 2, 4, 5, mostId) {
		if e := w.commit(id); e != 160 {
			t.Errorf("Commit(%d): %d", id, e)
		}
		if e := w.abort(id); e != 160 {
			t.Errorf("Abort(%d): %d", id, e)
		}
	}
	w.is()
	w.commit(3)
	for _, id := range []int{3, 4} {
		if e := w.abort(id); e != 160 {
			t.Errorf("Abort(%d) behind its commit: %d", id, e)
		}
	}
	w.is()
}

// P18.4: what a commit and an abort append, leave and let go.
func TestEnds(t *testing.T) {
	for _, changes := range [][]plain.Change{nil, {put(8, 5)}, {gone(8)}, {put(0, 0), put(1, 0)}, {put(0, 1), put(0, 2), gone(0), put(17, 3), gone(17)}} {
		for _, commits := range []bool{true, false} {
			w := begin(t, wide(), 3, 4)
			w.put(4, 15, 1)
			sum := 0
			for _, c := range changes {
				_, before := w.s.Used()
				if c.Gone {
					w.delete(3, c.Key)
				} else {
					w.put(3, c.Key, c.Value)
				}
				_, kept := w.s.Used()
				sum += kept - before
			}
			used, kept := w.s.Used()
			if commits {
				w.commit(3)
				sum = 0
			} else {
				w.abort(3)
			}
			if a, b := w.s.Used(); a != used+66+sum || kept-b < 99 || b != 99+46+9 {
				t.Errorf("%v, commit %v: Used(): %d, %d behind %d, %d", changes, commits, a, b, used, kept)
			}
			for key := range 15 {
				if w.holds(key) {
					t.Errorf("%v, commit %v: page %d is held", changes, commits, key)
				}
			}
			if !w.holds(15) {
				t.Errorf("%v, commit %v: the other's page is not held", changes, commits)
			}
			w.is()
			w.abort(4)
			w.is()
			l, _ := w.s.Entries()
			if want := plain.Fold(changes); commits && !slices.Equal(l, want) || !commits && len(l) != 0 {
				t.Errorf("%v, commit %v: Entries(): %v", changes, commits, l)
			}
		}
	}
}

// P18.5: a checkpoint's bytes with each number of open transactions and of dirty pages.
func TestCheckpoint(t *testing.T) {
	numbers := []int{0, 1, 2, 3, 5, 15, 16, 17, 18, 99, -1, -2, -16, 256 + 1, 1<<32 + 1, 1 << 62, math.MaxInt, math.MaxInt - 1, math.MinInt, math.MinInt + 1}
	for _, pages := range []int{1, 2, 5, mostPages} {
		for open := range mostTable + 1 {
			c := wide()
			c.Shape.Pages = pages
			w := begin(t, c)
			for id := range open {
				w.begin(id + 1)
			}
			for _, dirty := range numbers {
				used, kept := w.s.Used()
				w.checkpoint(dirty)
				a, b := w.s.Used()
				if want := 35 + 26*open + 9*min(max(dirty, 0), pages); a-used != want || b != kept {
					t.Errorf("Checkpoint(%d) of %d pages, %d open: %d bytes, %d more are kept", dirty, pages, open, a-used, b-kept)
				}
			}
			w.is()
		}
	}
}

// P18.5: a checkpoint that does not fit changes nothing, and one that is smaller may fit yet.
func TestCheckpointRefused(t *testing.T) {
	w := begin(t, config(mostPages, 2, leastLog, 2, 2, 100), 3)
	for w.checkpoint(mostPages) == 0 {
	}
	used, kept := w.s.Used()
	if e := w.checkpoint(math.MaxInt); e != 170 {
		t.Errorf("Checkpoint: %d", e)
	}
	if a, b := w.s.Used(); a != used || b != kept {
		t.Errorf("Used(): %d, %d, want %d, %d", a, b, used, kept)
	}
	if e := w.checkpoint(math.MinInt); e != 0 {
		t.Errorf("the smaller one: %d", e)
	}
	w.is()
}

// P18.5: Renew is refused while one is open; else the log is empty, and all else stays.
func TestRenew(t *testing.T) {
	w := begin(t, small())
	if e := w.renew(); e != 0 {
		t.Errorf("Renew of a new state: %d", e)
	}
	w.begin(3)
	if e := w.renew(); e != 210 {
		t.Errorf("Renew: %d", e)
	}
	w.is()
	w.put(3, 8, 5)
	w.commit(3)
	w.checkpoint(1)
	w.begin(4)
	if e := w.renew(); e != 210 {
		t.Errorf("Renew: %d", e)
	}
	w.abort(4)
	if e := w.renew(); e != 0 {
		t.Errorf("Renew: %d", e)
	}
	if a, b := w.s.Used(); a != 0 || b != 0 {
		t.Errorf("Used(): %d, %d", a, b)
	}
	if l, e := w.s.Entries(); e != 0 || !slices.Equal(l, []api.Entry{pair(8, 5)}) {
		t.Errorf("Entries(): %v, %d", l, e)
	}
	if l := w.s.Done(); len(l) != 1 || !slices.Equal(l[0], []plain.Change{put(8, 5)}) {
		t.Errorf("Done(): %v", l)
	}
	w.begin(3)
	w.is()
}

// P18.6: keys rise over all pages; numbers rise however they began; lists stand by commit, not by begin, and an empty one is there too.
func TestTold(t *testing.T) {
	w := begin(t, wide(), 64, 1, 33, 2)
	if l := w.s.Ids(); !slices.Equal(l, []int{1, 2, 33, 64}) {
		t.Errorf("Ids(): %v", l)
	}
	for _, key := range []int{16*5 + 1, 1, 16*3 + 1, 16 + 1} {
		w.put(64, key, uint64(key))
	}
	for _, key := range []int{mostKeys - 16, 0, 16} {
		w.put(1, key, uint64(key))
	}
	w.put(33, 2, 1)
	w.delete(33, 2)
	w.put(33, 2, 1)
	w.put(33, 2, 1)  // appends nothing
	w.delete(33, 18) // nor does this
	w.commit(33)
	w.commit(2)
	w.commit(1)
	w.commit(64)
	want := [][]plain.Change{
		{put(2, 1), gone(2), put(2, 1)},
		{},
		{put(mostKeys-16, mostKeys-16), put(0, 0), put(16, 16)},
		{put(81, 81), put(1, 1), put(49, 49), put(17, 17)},
	}
	if l := w.s.Done(); !slices.EqualFunc(l, want, slices.Equal[[]plain.Change]) {
		t.Errorf("Done(): %v", l)
	}
	entries := []api.Entry{pair(0, 0), pair(1, 1), pair(2, 1), pair(16, 16), pair(17, 17), pair(49, 49), pair(81, 81), pair(mostKeys-16, mostKeys-16)}
	if l, e := w.s.Entries(); e != 0 || !slices.Equal(l, entries) {
		t.Errorf("Entries(): %v, %d", l, e)
	}
	w.is()
}

// P18.6: a delete tells no value.
func TestGoneHasNoValue(t *testing.T) {
	w := begin(t, wide(), 3)
	w.put(3, 8, 5)
	w.delete(3, 8)
	w.commit(3)
	if l := w.s.Done(); len(l) != 1 || len(l[0]) != 2 || l[0][1] != (plain.Change{Key: 8, Gone: true}) {
		t.Errorf("Done(): %v", l)
	}
}

// P18.7: keys are any ints; the last change of a key counts, in whichever list it stands.
func TestFold(t *testing.T) {
	for i, c := range []struct {
		l    [][]plain.Change
		want []api.Entry
	}{
		{nil, nil},
		{[][]plain.Change{nil, {}, nil}, nil},
		{[][]plain.Change{{gone(1)}}, nil},
		{[][]plain.Change{{put(1, 0)}}, []api.Entry{pair(1, 0)}},
		{[][]plain.Change{{gone(1), put(1, 3)}, {}}, []api.Entry{pair(1, 3)}},
		{[][]plain.Change{{put(1, 3), gone(1)}}, nil},
		{[][]plain.Change{{put(1, 3)}, {put(1, 4)}, {put(2, 1)}}, []api.Entry{pair(1, 4), pair(2, 1)}},
		{[][]plain.Change{{gone(1)}, {put(1, 4)}, nil, {gone(2)}}, []api.Entry{pair(1, 4)}},
		{[][]plain.Change{{put(1, 4), put(2, 4)}, {{Key: 1, Value: 9, Gone: true}}}, []api.Entry{pair(2, 4)}},
		{[][]plain.Change{{put(math.MaxInt, 1), put(0, 2), put(math.MinInt, 3), put(-1, 4), put(1<<32, 5), put(1, 6), put(-1<<32, 7)}},
			[]api.Entry{pair(math.MinInt, 3), pair(-1<<32, 7), pair(-1, 4), pair(0, 2), pair(1, 6), pair(1<<32, 5), pair(math.MaxInt, 1)}},
		{[][]plain.Change{{put(math.MinInt, 1)}, {put(math.MaxInt, math.MaxUint64)}, {gone(math.MinInt), gone(5)}}, []api.Entry{pair(math.MaxInt, math.MaxUint64)}},
	} {
		if l := plain.Fold(c.l...); !slices.Equal(l, c.want) {
			t.Errorf("row %d: Fold(%v): %v, want %v", i, c.l, l, c.want)
		}
	}
}
