package write_test

import (
	"bytes"
	"math/rand"
	"reflect"
	"slices"
	"testing"

	"tidemark/api"
	"tidemark/page"
	"tidemark/plain"
	"tidemark/wal"
)

// leaf is a page as the model knows it: its LSN, and the bytes of its slots.
type leaf struct {
	lsn   int
	slots [][]byte
}

// deal is an open transaction as the model knows it.
type deal struct {
	birth, id, last, next int
	lengths               []int // of its updates
	pages                 []int // that it holds
}

// model is what a Writer must do, told plainly: no pool, no locks, no table; the log is a list of lines.
type model struct {
	s      setup
	leaves []leaf
	log    []line
	bytes  int
	deals  []*deal // by birth
}

func modelOf(s setup) *model {
	m := &model{s: s, leaves: make([]leaf, s.shape.Pages)}
	for i := range m.leaves {
		for range s.shape.Slots {
			m.leaves[i].slots = append(m.leaves[i].slots, free())
		}
	}
	return m
}

func (m *model) find(id int) *deal {
	for _, d := range m.deals {
		if d.id == id {
			return d
		}
	}
	return nil
}

func (d *deal) kept() int {
	sum := 99
	for _, n := range d.lengths {
		sum += 46 + n
	}
	return sum
}

func (m *model) kept() int {
	sum := 0
	for _, d := range m.deals {
		sum += d.kept()
	}
	return sum
}

func (m *model) fits(more, keep int) bool { return m.bytes+more+m.kept()+keep <= m.s.area }

func (m *model) append(size int, make func(lsn int) line) int {
	lsn := m.s.base + m.bytes + 1
	m.log = append(m.log, make(lsn))
	m.bytes += size
	return lsn
}

func (m *model) begin(id int) (int, api.Errno) {
	switch {
	case id < 1 || id > 64 || m.find(id) != nil:
		return 0, api.ErrTxn
	case len(m.deals) == m.s.table:
		return 0, api.ErrTable
	case !m.fits(34, 99):
		return 0, api.ErrLog
	}
	birth := m.append(34, func(lsn int) line { return beginOf(lsn, id) })
	m.deals = append(m.deals, &deal{birth: birth, id: id, last: birth})
	return birth, api.OK
}

// look is what get, put and delete look for first.
func (m *model) look(id, key int) (*deal, int, api.Errno) {
	d := m.find(id)
	if d == nil {
		return nil, 0, api.ErrTxn
	}
	if key < 0 || key >= m.s.keys {
		return nil, 0, api.ErrKey
	}
	number := key % m.s.shape.Pages
	for _, o := range m.deals {
		if o != d && slices.Contains(o.pages, number) {
			return nil, 0, api.ErrBusy
		}
	}
	return d, number, api.OK
}

func (d *deal) hold(number int) {
	if !slices.Contains(d.pages, number) {
		d.pages = append(d.pages, number)
	}
}

// slotOf tells where a key stands in a page; -1: nowhere.
func (m *model) slotOf(number, key int) int {
	return slices.IndexFunc(m.leaves[number].slots, func(b []byte) bool {
		return b[0] == 1 && bytes.Equal(b[4:8], used(key, 0)[4:8])
	})
}

func (m *model) get(id, key int) (uint64, bool, api.Errno) {
	d, number, e := m.look(id, key)
	if e != api.OK {
		return 0, false, e
	}
	d.hold(number)
	at := m.slotOf(number, key)
	if at < 0 {
		return 0, false, api.OK
	}
	return uint64Of(m.leaves[number].slots[at]), true, api.OK
}

func (m *model) put(id, key int, v uint64) api.Errno {
	d, number, e := m.look(id, key)
	if e != api.OK {
		return e
	}
	at := m.slotOf(number, key)
	if at < 0 {
		at = slices.IndexFunc(m.leaves[number].slots, func(b []byte) bool { return b[0] != 1 })
	}
	if at < 0 {
		return api.ErrFull
	}
	return m.lay(d, number, at, used(key, v))
}

func (m *model) remove(id, key int) (bool, api.Errno) {
	d, number, e := m.look(id, key)
	if e != api.OK {
		return false, e
	}
	at := m.slotOf(number, key)
	if at < 0 {
		d.hold(number)
		return false, api.OK
	}
	e = m.lay(d, number, at, free())
	return e == api.OK, e
}

// lay has a slot have other bytes; what is alike is taken from both ends.
func (m *model) lay(d *deal, number, at int, will []byte) api.Errno {
	a, b, from := m.leaves[number].slots[at], will, 16+16*at
	for len(a) > 0 && a[0] == b[0] {
		a, b, from = a[1:], b[1:], from+1
	}
	for n := len(a); n > 0 && a[n-1] == b[n-1]; n = len(a) {
		a, b = a[:n-1], b[:n-1]
	}
	n := len(a)
	if n > 0 && !m.fits(38+2*n, 46+n) {
		return api.ErrLog
	}
	d.hold(number)
	if n == 0 {
		return api.OK
	}
	lsn := m.append(38+2*n, func(lsn int) line { return updateOf(lsn, d.birth, d.last, number, from, a, b) })
	d.last, d.next, d.lengths = lsn, lsn, append(d.lengths, n)
	m.leaves[number].lsn, m.leaves[number].slots[at] = lsn, will
	return api.OK
}

func (m *model) commit(id int) api.Errno {
	d := m.find(id)
	if d == nil {
		return api.ErrTxn
	}
	lsn := m.append(33, func(lsn int) line { return commitOf(lsn, d.birth, d.last) })
	m.append(33, func(end int) line { return endOf(end, d.birth, lsn) })
	m.deals = slices.DeleteFunc(m.deals, func(o *deal) bool { return o == d })
	return api.OK
}

// told looks at all that a Writer goes on using.
func (x *world) told(m *model) {
	x.t.Helper()
	x.wantLog(m.log...)
	var rows []api.Row
	var holders [16]int
	for _, d := range m.deals {
		rows = append(rows, api.Row{Birth: d.birth, Id: d.id, State: api.SOpen, Last: d.last, Next: d.next})
		x.wantKept(d.birth, d.kept(), m.kept())
		for _, n := range d.pages {
			if holders[n] != 0 {
				x.t.Fatalf("page %d is held by two", n)
			}
			holders[n] = d.birth
		}
	}
	x.wantRows(rows...)
	for n, want := range holders {
		x.wantHolder(n, want)
	}
	for n, l := range m.leaves {
		want := sheet(n, l.lsn, l.slots...)
		if l.lsn == 0 {
			want = make([]byte, len(want))
		}
		x.wantPage(n, want)
	}
	if x.l.Bytes() != m.bytes || x.l.Bytes()+x.r.Kept() > x.s.area {
		x.t.Errorf("%d bytes, and %d kept, of %d; want %d bytes", x.l.Bytes(), x.r.Kept(), x.s.area, m.bytes)
	}
	x.logFirst()
}

// logFirst looks that no page on the disk is ahead of what is flushed.
func (x *world) logFirst() {
	x.t.Helper()
	for n, b := range x.d.Image().Pages {
		if lsn, e := page.Check(b, n, x.s.shape.Slots); e != api.OK || lsn >= x.l.Flushed() {
			x.t.Fatalf("page %d has the LSN %d (%d), and the log is flushed up to %d", n, lsn, e, x.l.Flushed())
		}
	}
}

// runner does one seeded run.
type runner struct {
	*world
	m     *model
	dice  *rand.Rand
	cut   bool   // the disk has died in the run
	sure  []line // the commit records of the commits that answered OK
	asked *line  // the commit record of the commit that was cut
}

func start(t *testing.T, seed int64, stop int) *runner {
	t.Helper()
	r := rand.New(rand.NewSource(seed))
	s := setup{
		shape:  api.Shape{Pages: 1 + r.Intn(5), Slots: 1 + r.Intn(3), Log: 1024 + r.Intn(3000)},
		frames: 2 + r.Intn(3), table: 1 + r.Intn(5), keys: 4 + r.Intn(20), base: r.Intn(3) * 5000,
	}
	s.area = s.shape.Log - r.Intn(2)*r.Intn(300)
	g := &runner{world: made(t, s), m: modelOf(s), dice: r}
	g.d.Stop(stop)
	return g
}

// id is a number of few, now and then one that may not be.
func (g *runner) id() int {
	if g.dice.Intn(20) == 0 {
		return []int{0, -1, 65, 64}[g.dice.Intn(4)]
	}
	return 1 + g.dice.Intn(5)
}

func (g *runner) key() int {
	if g.dice.Intn(20) == 0 {
		return []int{-1, g.s.keys, g.s.keys + 1}[g.dice.Intn(3)]
	}
	return g.dice.Intn(g.s.keys)
}

func (g *runner) value() uint64 {
	return []uint64{0, 1, 255, 256, 1 << 40, g.dice.Uint64()}[g.dice.Intn(6)]
}

// same holds two answers against each other, unless the disk has died in the call.
func (g *runner) same(what string, e api.Errno, got, want [3]any) {
	g.t.Helper()
	if e == api.ErrDead && g.d.Dead() {
		g.cut = true
		return
	}
	if got != want {
		g.t.Fatalf("%s: %v, want %v", what, got, want)
	}
}

func (g *runner) step() {
	g.t.Helper()
	id, key, v, pick := g.id(), g.key(), g.value(), g.dice.Intn(40)-20
	switch k := g.dice.Intn(20); {
	case k < 3:
		n, e := g.begin(id)
		want, f := g.m.begin(id)
		g.same("Begin", e, [3]any{n, e}, [3]any{want, f})
	case k < 7:
		w, is, e := g.get(id, key, pick)
		if g.lives("Get", e) {
			want, has, f := g.m.get(id, key)
			g.same("Get", e, [3]any{w, is, e}, [3]any{want, has, f})
		}
	case k < 14:
		e := g.w.Put(id, key, v, pick)
		if g.lives("Put", e) {
			g.same("Put", e, [3]any{e}, [3]any{g.m.put(id, key, v)})
		}
	case k < 18:
		is, e := g.delete(id, key, pick)
		if g.lives("Delete", e) {
			has, f := g.m.remove(id, key)
			g.same("Delete", e, [3]any{is, e}, [3]any{has, f})
		}
	default:
		g.stepCommit(id)
	}
}

// lives marks a call in which the disk has died: the model does not do it.
func (g *runner) lives(what string, e api.Errno) bool {
	g.t.Helper()
	g.cut = g.cut || e == api.ErrDead && g.d.Dead()
	if e == api.ErrDead && !g.d.Dead() {
		g.t.Fatalf("%s: ErrDead on a disk that is not dead", what)
	}
	return !g.cut
}

func (g *runner) stepCommit(id int) {
	g.t.Helper()
	e := g.w.Commit(id)
	f := g.m.commit(id)
	if f != api.OK {
		g.same("Commit", e, [3]any{e}, [3]any{f})
		return
	}
	record := g.m.log[len(g.m.log)-2]
	if !g.lives("Commit", e) {
		g.asked = &record
		return
	}
	g.same("Commit", e, [3]any{e}, [3]any{f})
	g.sure = append(g.sure, record)
}

// crashed looks at the log that a crash leaves: it is a beginning of what was appended, and each commit that answered OK is in it.
func (g *runner) crashed(c api.Choice) {
	g.t.Helper()
	l, e := wal.Open(g.d.Crash(c), g.s.base)
	ok(g.t, "wal.Open", e)
	var left []line
	for lsn, r := range l.All() {
		left = append(left, line{lsn, r})
	}
	if len(left) > len(g.m.log) {
		g.t.Fatalf("%d records are left of %d", len(left), len(g.m.log))
	}
	for i, x := range left {
		if !sameLine(x, g.m.log[i]) {
			g.t.Fatalf("record %d: %v, want %v", i, x, g.m.log[i])
		}
	}
	among := func(want line) bool {
		return slices.ContainsFunc(left, func(x line) bool { return sameLine(x, want) })
	}
	for _, want := range g.sure {
		if !among(want) {
			g.t.Fatalf("the commit %v does not last", want)
		}
	}
	// No other commit is there, but the one that was cut.
	for _, x := range left {
		isSure := slices.ContainsFunc(g.sure, func(s line) bool { return sameLine(s, x) })
		if x.r.Kind == api.KCommit && !isSure && (g.asked == nil || !sameLine(*g.asked, x)) {
			g.t.Fatalf("nobody has asked for the commit %v", x)
		}
	}
}

func (g *runner) crashes() {
	g.t.Helper()
	for _, log := range []int{0, 1, 33, 34, -1, -2, g.dice.Intn(500)} {
		g.crashed(api.Choice{Log: log, Keep: []int{g.dice.Intn(3)}})
	}
}

func TestRunsAreThoseOfTheModel(t *testing.T) { // P19.1 to P19.7
	for seed := range int64(300) {
		g := start(t, seed, 0)
		for range 150 {
			was := g.state()
			lines := len(was.lines)
			g.step()
			g.told(g.m)
			if len(g.m.log) == lines && !reflect.DeepEqual(was.pages, g.state().pages) {
				t.Fatal("a page is another, and nothing was logged")
			}
		}
		if g.cut {
			t.Fatal("nobody has stopped the disk")
		}
		g.crashes()
		if t.Failed() {
			t.Fatalf("seed %d", seed)
		}
	}
}

// At each act a run may be cut: each further call is ErrDead, and what a crash leaves has each commit that answered OK.
func TestRunsThatAreCut(t *testing.T) { // P19.5, P19.6
	for seed := range int64(15) {
		for stop := 1; ; stop++ {
			g := start(t, seed, stop)
			for i := 0; i < 100 && !g.cut; i++ {
				g.step()
			}
			if !g.cut {
				break
			}
			g.wantDead("a run that was cut")
			g.crashes()
		}
	}
}

// Without a crash each answer is that of plain, up to the first ErrLog of a put or a delete: what follows it is another layer's.
func TestRunsAreThoseOfPlain(t *testing.T) { // P19.1 to P19.5
	for seed := range int64(300) {
		g := start(t, seed, 0)
		g.s.area, g.s.base = g.s.shape.Log, 0
		g.world = made(t, g.s)
		z, e := plain.New(api.Config{Shape: g.s.shape, Frames: g.s.frames, Table: g.s.table, Keys: g.s.keys})
		ok(t, "plain.New", e)
		for range 200 {
			if !g.stepPlain(z) {
				break
			}
			if n, kept := z.Used(); g.l.Bytes() != n || g.r.Kept() != kept {
				t.Fatalf("%d bytes, %d kept, want %d, %d", g.l.Bytes(), g.r.Kept(), n, kept)
			}
		}
		if e := g.end(z); e != api.OK {
			continue
		}
		want, _ := z.Entries()
		if got := g.dump(); !slices.Equal(got, want) {
			t.Fatalf("seed %d: the pages have %v, want %v", seed, got, want)
		}
	}
}

// stepPlain does one call on both; false: it was ErrLog of a put or a delete.
func (g *runner) stepPlain(z *plain.State) bool {
	g.t.Helper()
	id, key, v, pick := g.id(), g.key(), g.value(), g.dice.Intn(40)-20
	switch k := g.dice.Intn(20); {
	case k < 4:
		_, e := g.begin(id)
		g.same("Begin", e, [3]any{e}, [3]any{z.Begin(id)})
	case k < 8:
		w, is, e := g.get(id, key, pick)
		want, has, f := z.Get(id, key)
		g.same("Get", e, [3]any{w, is, e}, [3]any{want, has, f})
	case k < 14:
		e := g.w.Put(id, key, v, pick)
		g.same("Put", e, [3]any{e}, [3]any{z.Put(id, key, v)})
		return e != api.ErrLog
	case k < 17:
		is, e := g.delete(id, key, pick)
		has, f := z.Delete(id, key)
		g.same("Delete", e, [3]any{is, e}, [3]any{has, f})
		return e != api.ErrLog
	default:
		e := g.w.Commit(id)
		g.same("Commit", e, [3]any{e}, [3]any{z.Commit(id)})
	}
	return true
}

// end commits all that is open in both; ErrTxn: the two have parted by an ErrLog.
func (g *runner) end(z *plain.State) api.Errno {
	g.t.Helper()
	for _, row := range g.b.Rows() {
		if e := z.Commit(row.Id); e != api.OK {
			return e
		}
		g.commits(row.Id)
	}
	return api.OK
}

// dump gives all keys and values of the pages, keys rising.
func (g *runner) dump() []api.Entry {
	var all []api.Entry
	for n := range g.s.shape.Pages {
		for _, x := range page.Entries(g.page(n)) {
			all = append(all, x)
		}
	}
	slices.SortFunc(all, func(a, b api.Entry) int { return a.Key - b.Key })
	return all
}
