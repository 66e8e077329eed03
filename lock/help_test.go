package lock_test

import (
	"math"
	"slices"
	"testing"

	"tidemark/api"
	"tidemark/lock"
)

// The limits as the document tells them.
const (
	pages     = 16
	mostBirth = 1 << 60
)

// noPages and noBirths lie just beside what may be, where a narrower number would fold back on it, and at the ends of int.
func noPages() []int {
	return []int{-1, -2, -16, 16, 17, 99, 256, 1 << 16, 1 << 32, 1<<32 + 3, mostBirth, math.MaxInt, math.MinInt, math.MinInt + 3}
}

func noBirths() []int {
	return []int{0, -1, -7, -mostBirth, mostBirth + 1, mostBirth + 7, 1 << 61, 1 << 62, math.MaxInt, math.MinInt, math.MinInt + 7}
}

// births has those at the edges, and some that part in their high or their low halves alone.
func births() []int {
	return []int{1, 2, 7, 8, 255, 1<<32 + 7, 1<<33 + 7, mostBirth - 1, mostBirth}
}

// model is what locks must be, told plainly: each page's birth, or 0.
type model [pages]int

func (m *model) take(page, birth int) api.Errno {
	switch {
	case page < 0 || page > pages-1:
		return 61
	case birth < 1 || birth > mostBirth:
		return 30
	case m[page] == 0 || m[page] == birth:
		m[page] = birth
		return 0
	}
	return 150
}

func (m *model) give(page int) bool {
	if page < 0 || page > pages-1 || m[page] == 0 {
		return false
	}
	m[page] = 0
	return true
}

func (m *model) held(birth int) []int {
	var all []int
	for page, b := range m {
		if b != 0 && b == birth {
			all = append(all, page)
		}
	}
	return all
}

func (m *model) drop(birth int) []int {
	all := m.held(birth)
	for _, page := range all {
		m[page] = 0
	}
	return all
}

// world is locks beside the model of what they must be.
type world struct {
	t *testing.T
	l *lock.Locks
	m model
}

func begin(t *testing.T) *world {
	t.Helper()
	l := lock.New()
	if l == nil {
		t.Fatal("New: nil")
	}
	return &world{t: t, l: l}
}

// holding gives locks whose pages are held by these births, 0: by none.
func holding(t *testing.T, m model) *world {
	t.Helper()
	w := begin(t)
	for page, birth := range m {
		if birth != 0 {
			w.take(page, birth)
		}
	}
	return w
}

func (w *world) take(page, birth int) {
	w.t.Helper()
	want := w.m.take(page, birth)
	if e := w.l.Take(page, birth); e != want {
		w.t.Errorf("Take(%d, %d): %d, want %d", page, birth, e, want)
	}
}

func (w *world) give(page int) {
	w.t.Helper()
	want := w.m.give(page)
	if is := w.l.Give(page); is != want {
		w.t.Errorf("Give(%d): %v, want %v", page, is, want)
	}
}

func (w *world) drop(birth int) {
	w.t.Helper()
	want := w.m.drop(birth)
	if all := w.l.Drop(birth); !slices.Equal(all, want) {
		w.t.Errorf("Drop(%d): %v, want %v", birth, all, want)
	}
}

// is looks at all that can be asked of the locks: each page's holder, and what these births hold.
func (w *world) is(asked ...int) {
	w.t.Helper()
	for page := -2; page < pages+2; page++ {
		want := 0
		if page >= 0 && page < pages {
			want = w.m[page]
		}
		if b := w.l.Holder(page); b != want {
			w.t.Errorf("Holder(%d): %d, want %d", page, b, want)
		}
	}
	for _, birth := range append(asked, w.m[:]...) {
		want := w.m.held(birth)
		if all := w.l.Held(birth); !slices.Equal(all, want) {
			w.t.Errorf("Held(%d): %v, want %v", birth, all, want)
		}
	}
}
