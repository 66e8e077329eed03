package room_test

import (
	"math"
	"math/big"
	"slices"
	"testing"

	"tidemark/api"
	"tidemark/room"
)

// The chapter's numbers.
const (
	mostCount = 65535
	ending    = 99 // a commit's frame, an abort's, an end's
)

// noLengths lie just beside what may be, where a narrower number would fold back on it, and at the ends of int.
func noLengths() []int {
	return []int{0, -1, -2, -16, -mostCount, mostCount + 1, mostCount + 2, 1<<16 + 16, 1 << 31, 1<<32 + 16, 1 << 60, math.MaxInt, math.MinInt, math.MinInt + 16}
}

// lengths has ordinary ones and those at the edges.
func lengths() []int {
	return []int{1, 2, 15, 16, 17, 128, 255, 256, 257, 32767, 32768, mostCount - 1, mostCount}
}

// births may be any int: also 0, below 0, the ends, and some that part in their high or their low halves alone.
func births() []int {
	return []int{1, 2, 0, -1, -5, 255, 256 + 1, 1<<32 + 1, 1<<33 + 1, 1 << 60, 1<<60 + 1, math.MaxInt, math.MaxInt - 1, math.MinInt, math.MinInt + 1}
}

// txn is a transaction as the chapter tells it: its birth, and the bytes of each update that is not undone.
type txn struct {
	birth   int
	updates []int
}

func (x txn) keeps() int {
	sum := ending
	for _, n := range x.updates {
		sum += 46 + n
	}
	return sum
}

// model is what a Room must be, told plainly.
type model struct {
	area int
	open []txn
}

func (m *model) find(birth int) int {
	return slices.IndexFunc(m.open, func(x txn) bool { return x.birth == birth })
}

func (m *model) begin(birth int) api.Errno {
	if m.find(birth) >= 0 {
		return 160
	}
	m.open = append(m.open, txn{birth: birth})
	return 0
}

func (m *model) update(birth, n int) api.Errno {
	i := m.find(birth)
	switch {
	case i < 0:
		return 160
	case n < 1 || n > mostCount:
		return 30
	}
	m.open[i].updates = append(m.open[i].updates, n)
	return 0
}

func (m *model) undone(birth, n int) api.Errno {
	i := m.find(birth)
	if i < 0 {
		return 160
	}
	at := slices.Index(m.open[i].updates, n)
	if at < 0 {
		return 30
	}
	m.open[i].updates = slices.Delete(m.open[i].updates, at, at+1)
	return 0
}

func (m *model) drop(birth int) api.Errno {
	i := m.find(birth)
	if i < 0 {
		return 160
	}
	m.open = slices.Delete(m.open, i, i+1)
	return 0
}

func (m *model) of(birth int) int {
	if i := m.find(birth); i >= 0 {
		return m.open[i].keeps()
	}
	return 0
}

func (m *model) kept() int {
	sum := 0
	for _, x := range m.open {
		sum += x.keeps()
	}
	return sum
}

// fits adds up in numbers that have no end.
func (m *model) fits(used, more, keep int) bool {
	sum := big.NewInt(int64(m.kept()))
	for _, n := range []int{used, more, keep} {
		if n < 0 {
			return false
		}
		sum.Add(sum, big.NewInt(int64(n)))
	}
	return sum.Cmp(big.NewInt(int64(m.area))) <= 0
}

// world is a Room beside the model of what it must be.
type world struct {
	t *testing.T
	r *room.Room
	m model
}

func begin(t *testing.T, area int, open ...txn) *world {
	t.Helper()
	r := room.New(area)
	if r == nil {
		t.Fatalf("New(%d): nil", area)
	}
	w := &world{t: t, r: r, m: model{area: area}}
	for _, x := range open {
		w.begin(x.birth)
		for _, n := range x.updates {
			w.update(x.birth, n)
		}
	}
	return w
}

func (w *world) begin(birth int) api.Errno {
	w.t.Helper()
	want := w.m.begin(birth)
	if e := w.r.Begin(birth); e != want {
		w.t.Errorf("Begin(%d): %d, want %d", birth, e, want)
	}
	return want
}

func (w *world) update(birth, n int) api.Errno {
	w.t.Helper()
	want := w.m.update(birth, n)
	if e := w.r.Update(birth, n); e != want {
		w.t.Errorf("Update(%d, %d): %d, want %d", birth, n, e, want)
	}
	return want
}

func (w *world) undone(birth, n int) api.Errno {
	w.t.Helper()
	want := w.m.undone(birth, n)
	if e := w.r.Undone(birth, n); e != want {
		w.t.Errorf("Undone(%d, %d): %d, want %d", birth, n, e, want)
	}
	return want
}

func (w *world) drop(birth int) api.Errno {
	w.t.Helper()
	want := w.m.drop(birth)
	if e := w.r.Drop(birth); e != want {
		w.t.Errorf("Drop(%d): %d, want %d", birth, e, want)
	}
	return want
}

func (w *world) fits(used, more, keep int) bool {
	w.t.Helper()
	want := w.m.fits(used, more, keep)
	if ok := w.r.Fits(used, more, keep); ok != want {
		w.t.Errorf("Fits(%d, %d, %d): %v, want %v (area %d, kept %d)", used, more, keep, ok, want, w.m.area, w.m.kept())
	}
	return want
}

// is looks at all that can be asked of the Room: what each keeps, and these births; the sum; where what fits ends.
func (w *world) is(asked ...int) {
	w.t.Helper()
	for _, x := range w.m.open {
		asked = append(asked, x.birth)
	}
	for _, birth := range asked {
		if n, want := w.r.Of(birth), w.m.of(birth); n != want {
			w.t.Errorf("Of(%d): %d, want %d", birth, n, want)
		}
	}
	if n, want := w.r.Kept(), w.m.kept(); n != want {
		w.t.Errorf("Kept(): %d, want %d", n, want)
	}
	left := w.m.area - w.m.kept()
	for _, n := range []int{0, 1, left - 1, left, left + 1} {
		w.fits(n, 0, 0)
		w.fits(0, n, 0)
		w.fits(0, 0, n)
		w.fits(n/3, n/3, n-n/3*2)
	}
}
