package plain_test

import (
	"encoding/binary"
	"math"
	"slices"
	"testing"

	"tidemark/api"
	"tidemark/plain"
)

// The limits as the document tells them.
const (
	mostPages  = 16
	mostSlots  = 8
	mostFrames = 16
	mostTable  = 8
	mostId     = 64
	mostKeys   = 1048576
	leastLog   = 1024
	mostLog    = 65536
)

func config(pages, slots, log, frames, table, keys int) api.Config {
	return api.Config{Shape: api.Shape{Pages: pages, Slots: slots, Log: log}, Frames: frames, Table: table, Keys: keys}
}

// small is the configuration of the chapter's examples; wide is one in which nothing is scarce.
func small() api.Config { return config(2, 2, 1024, 2, 2, 100) }
func wide() api.Config  { return config(mostPages, mostSlots, mostLog, 2, mostTable, mostKeys) }

func put(key int, v uint64) plain.Change { return plain.Change{Key: key, Value: v} }
func gone(key int) plain.Change          { return plain.Change{Key: key, Gone: true} }
func pair(key int, v uint64) api.Entry   { return api.Entry{Key: key, Value: v} }

// noIds lie just beside what may be, where a narrower number would fold back on it, and at the ends of int.
func noIds() []int {
	return []int{0, -1, -3, -64, 65, 67, 128, 256 + 3, 1<<16 + 3, 1<<32 + 3, math.MaxInt, math.MinInt, math.MinInt + 3}
}

// noKeys are keys that may not be, of so many.
func noKeys(keys int) []int {
	return []int{-1, -2, -keys, keys, keys + 1, keys + 2, 1<<32 + 1, 1<<33 + 2, 1 << 60, math.MaxInt, math.MinInt, math.MinInt + 1}
}

// bytesOf are a slot's, with a key and a value.
func bytesOf(c plain.Change) []byte {
	b := make([]byte, 16)
	if !c.Gone {
		b[0] = 1
		binary.LittleEndian.PutUint32(b[4:], uint32(c.Key))
		binary.LittleEndian.PutUint64(b[8:], c.Value)
	}
	return b
}

// lengthOf takes from both ends what is alike.
func lengthOf(a, b []byte) int {
	for len(a) > 0 && a[0] == b[0] {
		a, b = a[1:], b[1:]
	}
	for n := len(a); n > 0 && a[n-1] == b[n-1]; n = len(a) {
		a, b = a[:n-1], b[:n-1]
	}
	return len(a)
}

// txn is an open transaction as the chapter tells it: the pages that it holds, its changes, and their lengths.
type txn struct {
	id      int
	pages   []int
	changes []plain.Change
	lengths []int
}

func (x *txn) compensations() int {
	sum := 0
	for _, n := range x.lengths {
		sum += 46 + n
	}
	return sum
}

// model is what a state must be, told plainly: no map of values, but all changes, gone through anew for each answer.
type model struct {
	c    api.Config
	log  []int // the bytes of each frame
	open []*txn
	done [][]plain.Change
}

func (m *model) find(id int) *txn {
	for _, x := range m.open {
		if x.id == id {
			return x
		}
	}
	return nil
}

func (m *model) sums() (used, kept int) {
	for _, n := range m.log {
		used += n
	}
	for _, x := range m.open {
		kept += 99 + x.compensations()
	}
	return used, kept
}

func (m *model) fits(more, keep int) bool {
	used, kept := m.sums()
	return used+more+kept+keep <= m.c.Shape.Log
}

// entries are the pairs behind all that was committed and these changes, keys rising.
func (m *model) entries(more ...plain.Change) []api.Entry {
	var all []api.Entry
	for _, l := range append(slices.Clone(m.done), more) {
		for _, c := range l {
			all = slices.DeleteFunc(all, func(x api.Entry) bool { return x.Key == c.Key })
			if !c.Gone {
				all = append(all, pair(c.Key, c.Value))
			}
		}
	}
	slices.SortFunc(all, func(a, b api.Entry) int { return a.Key - b.Key })
	return all
}

func (m *model) begin(id int) api.Errno {
	switch {
	case id < 1 || id > mostId || m.find(id) != nil:
		return 160
	case len(m.open) == m.c.Table:
		return 161
	case !m.fits(34, 99):
		return 170
	}
	m.log = append(m.log, 34)
	m.open = append(m.open, &txn{id: id})
	return 0
}

// look is what get, put and delete look for ahead of all else.
func (m *model) look(id, key int) (*txn, api.Errno) {
	x := m.find(id)
	switch {
	case x == nil:
		return nil, 160
	case key < 0 || key >= m.c.Keys:
		return nil, 50
	}
	for _, other := range m.open {
		if other != x && slices.Contains(other.pages, key%m.c.Shape.Pages) {
			return nil, 150
		}
	}
	return x, 0
}

// hold: a page that is held twice over stands twice, and nobody minds.
func (m *model) hold(x *txn, key int) {
	x.pages = append(x.pages, key%m.c.Shape.Pages)
}

func (m *model) get(id, key int) (uint64, bool, api.Errno) {
	x, e := m.look(id, key)
	if e != 0 {
		return 0, false, e
	}
	m.hold(x, key)
	for _, p := range m.entries(x.changes...) {
		if p.Key == key {
			return p.Value, true, 0
		}
	}
	return 0, false, 0
}

// change is a put or a delete; it tells whether the key had a value.
func (m *model) change(id int, c plain.Change) (bool, api.Errno) {
	x, e := m.look(id, c.Key)
	if e != 0 {
		return false, e
	}
	old, there, keys := gone(c.Key), false, 0
	for _, p := range m.entries(x.changes...) {
		if p.Key == c.Key {
			old, there = put(p.Key, p.Value), true
		}
		if p.Key%m.c.Shape.Pages == c.Key%m.c.Shape.Pages {
			keys++
		}
	}
	if !c.Gone && !there && keys == m.c.Shape.Slots {
		return false, 42
	}
	if n := lengthOf(bytesOf(old), bytesOf(c)); n > 0 {
		if !m.fits(38+2*n, 46+n) {
			m.abort(id)
			return false, 170
		}
		m.log = append(m.log, 38+2*n)
		x.changes = append(x.changes, c)
		x.lengths = append(x.lengths, n)
	}
	m.hold(x, c.Key)
	return there, 0
}

func (m *model) drop(x *txn) {
	m.open = slices.DeleteFunc(m.open, func(y *txn) bool { return y == x })
}

func (m *model) commit(id int) api.Errno {
	x := m.find(id)
	if x == nil {
		return 160
	}
	m.log = append(m.log, 33, 33)
	m.done = append(m.done, x.changes)
	m.drop(x)
	return 0
}

func (m *model) abort(id int) api.Errno {
	x := m.find(id)
	if x == nil {
		return 160
	}
	m.log = append(m.log, 33, x.compensations(), 33)
	m.drop(x)
	return 0
}

func (m *model) checkpoint(dirty int) api.Errno {
	if dirty < 0 {
		dirty = 0
	}
	if dirty > m.c.Shape.Pages {
		dirty = m.c.Shape.Pages
	}
	n := 35 + 26*len(m.open) + 9*dirty
	if !m.fits(n, 0) {
		return 170
	}
	m.log = append(m.log, n)
	return 0
}

func (m *model) renew() api.Errno {
	if len(m.open) > 0 {
		return 210
	}
	m.log = nil
	return 0
}

// world is a state beside the model of what it must be.
type world struct {
	t *testing.T
	s *plain.State
	m model
}

// begin gives a state in which these are open.
func begin(t *testing.T, c api.Config, ids ...int) *world {
	t.Helper()
	s, e := plain.New(c)
	if s == nil || e != 0 {
		t.Fatalf("New(%v): %d", c, e)
	}
	w := &world{t: t, s: s, m: model{c: c}}
	for _, id := range ids {
		w.begin(id)
	}
	return w
}

func (w *world) begin(id int) api.Errno {
	w.t.Helper()
	want := w.m.begin(id)
	if e := w.s.Begin(id); e != want {
		w.t.Errorf("Begin(%d): %d, want %d", id, e, want)
	}
	return want
}

func (w *world) get(id, key int) (uint64, bool, api.Errno) {
	w.t.Helper()
	v, there, want := w.m.get(id, key)
	if x, is, e := w.s.Get(id, key); x != v || is != there || e != want {
		w.t.Errorf("Get(%d, %d): %d, %v, %d, want %d, %v, %d", id, key, x, is, e, v, there, want)
	}
	return v, there, want
}

func (w *world) put(id, key int, v uint64) api.Errno {
	w.t.Helper()
	_, want := w.m.change(id, put(key, v))
	if e := w.s.Put(id, key, v); e != want {
		w.t.Errorf("Put(%d, %d, %d): %d, want %d", id, key, v, e, want)
	}
	return want
}

func (w *world) delete(id, key int) (bool, api.Errno) {
	w.t.Helper()
	there, want := w.m.change(id, gone(key))
	if is, e := w.s.Delete(id, key); is != there || e != want {
		w.t.Errorf("Delete(%d, %d): %v, %d, want %v, %d", id, key, is, e, there, want)
	}
	return there, want
}

func (w *world) commit(id int) api.Errno {
	w.t.Helper()
	want := w.m.commit(id)
	if e := w.s.Commit(id); e != want {
		w.t.Errorf("Commit(%d): %d, want %d", id, e, want)
	}
	return want
}

func (w *world) abort(id int) api.Errno {
	w.t.Helper()
	want := w.m.abort(id)
	if e := w.s.Abort(id); e != want {
		w.t.Errorf("Abort(%d): %d, want %d", id, e, want)
	}
	return want
}

func (w *world) checkpoint(dirty int) api.Errno {
	w.t.Helper()
	want := w.m.checkpoint(dirty)
	if e := w.s.Checkpoint(dirty); e != want {
		w.t.Errorf("Checkpoint(%d): %d, want %d", dirty, e, want)
	}
	return want
}

func (w *world) renew() api.Errno {
	w.t.Helper()
	want := w.m.renew()
	if e := w.s.Renew(); e != want {
		w.t.Errorf("Renew(): %d, want %d", e, want)
	}
	return want
}

// is looks at all that can be asked of the state without a change of it.
func (w *world) is() {
	w.t.Helper()
	used, kept := w.m.sums()
	if a, b := w.s.Used(); a != used || b != kept {
		w.t.Errorf("Used(): %d, %d, want %d, %d", a, b, used, kept)
	}
	var ids []int
	for _, x := range w.m.open {
		ids = append(ids, x.id)
	}
	slices.Sort(ids)
	if l := w.s.Ids(); !slices.Equal(l, ids) {
		w.t.Errorf("Ids(): %v, want %v", l, ids)
	}
	if l := w.s.Done(); !slices.EqualFunc(l, w.m.done, slices.Equal[[]plain.Change]) {
		w.t.Errorf("Done(): %v, want %v", l, w.m.done)
	}
	l, e := w.s.Entries()
	if len(ids) > 0 && (e != 210 || len(l) != 0) {
		w.t.Errorf("Entries() with %v open: %v, %d", ids, l, e)
	}
	if len(ids) == 0 && (e != 0 || !slices.Equal(l, w.m.entries())) {
		w.t.Errorf("Entries(): %v, %d, want %v", l, e, w.m.entries())
	}
}

// holds tells whether a transaction has a page, by what another one is answered that asks for it; the other one is new, and goes again.
func (w *world) holds(key int) bool {
	w.t.Helper()
	const other = mostId
	w.begin(other)
	_, _, e := w.get(other, key)
	w.abort(other)
	return e == 150
}
