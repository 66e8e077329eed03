package engine_test

import (
	"encoding/binary"
	"slices"

	"tidemark/api"
	"tidemark/disk"
	"tidemark/plain"
)

// twin tells what an engine that Create gave must answer, by the model of layer 18, and which acts it must do, by plain lists of frames and bytes.
type twin struct {
	c api.Config
	s *plain.State

	base, used, flushed int // of the log
	turn                int // of the newest master
	frames              map[int]*seat
	disk                []int // by page: the LSN that it has on the disk
	open                map[int][]step
	acts                int
}

// seat is a page in a frame.
type seat struct {
	lsn     int
	isDirty bool
}

// step is an update: its page, and how many bytes it changed.
type step struct{ page, n int }

func twinOf(x *run, c api.Config) *twin {
	s, f := plain.New(c)
	ok(x.t, "plain.New", f)
	return &twin{c: c, s: s, turn: 1, acts: x.d.Acts(), frames: map[int]*seat{}, disk: make([]int, c.Shape.Pages), open: map[int][]step{}}
}

// flush brings the log to the disk, if an LSN is not there yet.
func (w *twin) flush(lsn int) {
	if lsn > w.base+w.flushed && w.flushed < w.used {
		w.flushed = w.used
		w.acts += 2
	}
}

// write writes a page, if it is in a frame and dirty.
func (w *twin) write(page int) {
	if x := w.frames[page]; x != nil && x.isDirty {
		w.flush(x.lsn)
		w.acts += 4
		w.disk[page], x.isDirty = x.lsn, false
	}
}

// pin brings a page into a frame.
func (w *twin) pin(page, pick int) {
	if w.frames[page] != nil {
		return
	}
	w.acts++
	if len(w.frames) == w.c.Frames {
		var all []int
		for number := range w.frames {
			all = append(all, number)
		}
		slices.Sort(all)
		n := len(all)
		goes := all[(pick%n+n)%n]
		w.write(goes)
		delete(w.frames, goes)
	}
	w.frames[page] = &seat{lsn: w.disk[page]}
}

// change has a record of so many bytes change a page that is in a frame.
func (w *twin) change(page, bytes int) {
	x := w.frames[page]
	x.lsn, x.isDirty = w.base+w.used+1, true
	w.used += bytes
}

func (w *twin) dirty() int {
	n := 0
	for _, x := range w.frames {
		if x.isDirty {
			n++
		}
	}
	return n
}

// back undoes a transaction's updates, from the last to the first.
func (w *twin) back(id, pick int) {
	w.used += 33
	for _, u := range slices.Backward(w.open[id]) {
		w.pin(u.page, pick)
		w.change(u.page, 46+u.n)
	}
	w.used += 33
	delete(w.open, id)
}

func (w *twin) begin(id int) api.Errno {
	f := w.s.Begin(id)
	if f == api.OK {
		w.used += 34
		w.open[id] = nil
	}
	return f
}

func (w *twin) get(id, key, pick int) (uint64, bool, api.Errno) {
	v, there, f := w.s.Get(id, key)
	if f == api.OK {
		w.pin(key%w.c.Shape.Pages, pick)
	}
	return v, there, f
}

// changed follows a put or a delete that the model has answered; kept is what was kept ahead of it.
func (w *twin) changed(id, key, pick, kept int, f api.Errno) {
	if f == api.ErrTxn || f == api.ErrKey || f == api.ErrBusy {
		return
	}
	page := key % w.c.Shape.Pages
	w.pin(page, pick)
	_, now := w.s.Used()
	switch {
	case f == api.ErrLog:
		w.back(id, pick)
	case f == api.OK && now > kept:
		n := now - kept - 46
		w.change(page, 38+2*n)
		w.open[id] = append(w.open[id], step{page, n})
	}
}

func (w *twin) put(id, key int, value uint64, pick int) api.Errno {
	_, kept := w.s.Used()
	f := w.s.Put(id, key, value)
	w.changed(id, key, pick, kept, f)
	return f
}

func (w *twin) delete(id, key, pick int) (bool, api.Errno) {
	_, kept := w.s.Used()
	gone, f := w.s.Delete(id, key)
	w.changed(id, key, pick, kept, f)
	return gone, f
}

func (w *twin) commit(id int) api.Errno {
	f := w.s.Commit(id)
	if f == api.OK {
		w.used += 33
		w.flush(w.base + w.used)
		w.used += 33
		delete(w.open, id)
	}
	return f
}

func (w *twin) abort(id, pick int) api.Errno {
	f := w.s.Abort(id)
	if f == api.OK {
		w.back(id, pick)
	}
	return f
}

func (w *twin) checkpoint() api.Errno {
	f := w.s.Checkpoint(w.dirty())
	if f == api.OK {
		w.used += 35 + 26*len(w.open) + 9*w.dirty()
		w.flush(w.base + w.used)
		w.acts += 2
		w.turn++
	}
	return f
}

func (w *twin) renew() api.Errno {
	f := w.s.Renew()
	if f == api.OK {
		w.flush(w.base + w.used)
		for page := range w.frames {
			w.write(page)
		}
		w.acts += 3
		w.base, w.used, w.flushed = w.base+w.used, 0, 0
		w.turn++
	}
	return f
}

func (w *twin) clean(page int) api.Errno {
	if page < 0 || page >= w.c.Shape.Pages {
		return api.ErrPlace
	}
	w.write(page)
	return api.OK
}

func (w *twin) dump() ([]api.Entry, api.Errno) {
	l, f := w.s.Entries()
	if f == api.OK {
		w.acts += w.c.Shape.Pages - len(w.frames)
	}
	return l, f
}

// agrees looks at all that an engine tells of itself, and at its disk.
func (w *twin) agrees(x *run) {
	x.t.Helper()
	bytes, kept := w.s.Used()
	if bytes != w.used {
		x.t.Fatalf("the model has %d bytes, its frames %d", bytes, w.used)
	}
	x.used(bytes, kept)
	x.ids(w.s.Ids()...)
	if x.d.Acts() != w.acts {
		x.t.Errorf("%d acts, want %d", x.d.Acts(), w.acts)
	}
	if x.d.LogLen() != w.flushed {
		x.t.Errorf("%d bytes of the log are on the disk, want %d", x.d.LogLen(), w.flushed)
	}
	if got := lsns(x.d); !slices.Equal(got, w.disk) {
		x.t.Errorf("the pages on the disk have the LSNs %v, want %v", got, w.disk)
	}
	if s := newest(x.t, x.d); s.Turn != w.turn || s.Base != w.base {
		x.t.Errorf("the master is %v, want turn %d, base %d", s, w.turn, w.base)
	}
}

// lsns gives the LSNs of all pages that last on a disk.
func lsns(d *disk.Disk) []int {
	var all []int
	for _, b := range d.Lasts().Pages {
		all = append(all, int(binary.LittleEndian.Uint64(b)))
	}
	return all
}
