package engine

import (
	"cmp"
	"slices"

	"tidemark/api"
	"tidemark/back"
	"tidemark/check"
	"tidemark/disk"
	"tidemark/lock"
	"tidemark/master"
	"tidemark/page"
	"tidemark/pool"
	"tidemark/room"
	"tidemark/table"
	"tidemark/wal"
	"tidemark/write"
)

// leastFrames is how many frames a pool has at least.
const leastFrames = 2

// memory is what an engine has beside its disk: the layers below, that share one another.
type memory struct {
	l *wal.Log
	p *pool.Pool
	k *lock.Locks
	t *table.Table
	r *room.Room
	w *write.Writer
	c *check.Checker
}

// mayBe tells whether an engine may have that configuration. (Of its Shape the disk tells.)
func mayBe(c api.Config) bool {
	return within(c.Frames, leastFrames, api.MaxFrames) && within(c.Table, 1, api.MaxTable) && within(c.Keys, 1, api.MaxKeys)
}

func within(n, least, most int) bool { return n >= least && n <= most }

// begun gives an engine on a disk whose log is empty, and whose newest master is s.
func begun(d *disk.Disk, c api.Config, s master.State) (*Engine, api.Errno) {
	l, f := wal.Open(d, s.Base)
	if f != api.OK {
		return nil, f
	}
	p, f := pool.New(d, l, c.Frames)
	if f != api.OK {
		return nil, f
	}
	t, f := table.New(c.Table)
	if f != api.OK {
		return nil, f
	}
	m := &memory{l: l, p: p, k: lock.New(), t: t, r: room.New(c.Shape.Log)}
	m.w = write.New(l, p, m.k, t, m.r, c.Shape.Pages, c.Keys)
	m.c = check.New(d, l, p, t, m.r, s)
	return &Engine{d: d, m: m}, api.OK
}

// abort rolls a transaction back, and lets its pages go.
func (m *memory) abort(id int, pick int) api.Errno {
	row, there := m.t.ById(id)
	if !there {
		return api.ErrTxn
	}
	if _, f := back.Roll(m.l, m.p, m.t, m.r, row.Birth, pick); f != api.OK {
		return f
	}
	m.k.Drop(row.Birth)
	return api.OK
}

// abortedIfRoomless hands on what a change has answered: where the log lacked room for it, its transaction goes back.
func (m *memory) abortedIfRoomless(id int, pick int, answer api.Errno) api.Errno {
	if answer != api.ErrLog {
		return answer
	}
	if f := m.abort(id, pick); f != api.OK {
		return f
	}
	return api.ErrLog
}

// dump gives all that the pages hold, by key; of equal keys, which no engine leaves but a disk may have, the page and the slot tell.
func (m *memory) dump(d *disk.Disk) ([]api.Entry, api.Errno) {
	if m.t.Count() > 0 {
		return nil, api.ErrOpen
	}
	var all []api.Entry
	for number := range d.Shape().Pages {
		b, f := m.page(d, number)
		if f != api.OK {
			return nil, f
		}
		for _, x := range page.Entries(b) {
			all = append(all, x)
		}
	}
	slices.SortStableFunc(all, func(a, b api.Entry) int { return cmp.Compare(a.Key, b.Key) })
	return all, api.OK
}

// page gives a page's bytes as they are now, and takes no frame for it.
func (m *memory) page(d *disk.Disk, number int) ([]byte, api.Errno) {
	if b, held := m.p.Look(number); held {
		return b, api.OK
	}
	return d.ReadPage(number)
}

// ids gives the open transactions' numbers, rising.
func (m *memory) ids() []int {
	var all []int
	for _, row := range m.t.Rows() {
		all = append(all, row.Id)
	}
	slices.Sort(all)
	return all
}
