package table_test

import (
	"math"
	"slices"
	"testing"

	"tidemark/api"
	"tidemark/table"
)

// The limits as the document tells them.
const (
	mostRows = 8
	mostId   = 64
	mostLsn  = 1 << 60
)

func row(birth, id, state, last, next int) api.Row {
	return api.Row{Birth: birth, Id: id, State: state, Last: last, Next: next}
}

// fresh is a row as a begin makes it.
func fresh(birth, id int) api.Row {
	return row(birth, id, 1, birth, 0)
}

// rightRows has ordinary rows and those at the edges of each field.
func rightRows() []api.Row {
	return []api.Row{
		fresh(5, 3), row(5, 3, 2, 5, 0), row(5, 3, 1, 40, 40), row(5, 3, 2, 40, 0), row(5, 3, 1, 40, 6), row(5, 3, 1, 6, 6),
		fresh(1, 3), row(1, 3, 1, 2, 2), row(1, 3, 2, mostLsn, 2), row(1, 3, 2, mostLsn, mostLsn), row(1, 3, 1, mostLsn, 0),
		fresh(5, 1), fresh(5, 2), fresh(5, 63), fresh(5, mostId), row(5, 1, 2, 9, 7), row(5, mostId, 2, 9, 9),
		fresh(mostLsn, 3), row(mostLsn, mostId, 2, mostLsn, 0),
		fresh(mostLsn-1, 3), row(mostLsn-1, 3, 1, mostLsn, mostLsn), row(1<<32+5, 3, 2, 1<<33+5, 1<<32+6),
	}
}

// wrongRows has, of each field, what lies just beside what may be, where a narrower number would fold back on it, and the ends of int.
func wrongRows() []api.Row {
	all := []api.Row{{}, row(-1, -1, -1, -1, -1), row(0, 3, 1, 0, 0), row(mostLsn+1, 3, 1, mostLsn+1, 0), row(mostLsn+1, 3, 1, mostLsn, 0)}
	for _, birth := range []int{0, -1, -5, -mostLsn, mostLsn + 1, math.MaxInt, math.MinInt, math.MinInt + 5} {
		all = append(all, row(birth, 3, 1, 5, 0), row(birth, 3, 1, birth, 0), row(birth, 3, 1, mostLsn, 0), row(birth, 3, 2, 9, 7))
	}
	for _, id := range []int{0, -1, -3, -64, 65, 67, 128, 256 + 3, 1<<16 + 3, 1<<32 + 3, math.MaxInt, math.MinInt, math.MinInt + 3} {
		all = append(all, fresh(5, id), row(5, id, 2, 9, 7))
	}
	for _, state := range []int{0, 3, 4, -1, -2, 5, 256 + 1, 1<<32 + 1, math.MaxInt, math.MinInt, math.MinInt + 1} {
		all = append(all, row(5, 3, state, 5, 0), row(5, 3, state, 9, 7))
	}
	for _, last := range []int{4, 1, 0, -1, -5, mostLsn + 1, mostLsn + 5, 1 << 61, math.MaxInt, math.MinInt, math.MinInt + 5} {
		all = append(all, row(5, 3, 1, last, 0), row(5, 3, 2, last, last), row(5, 3, 2, last, 6))
	}
	for _, next := range []int{5, 4, 1, -1, -5, -7, 10, 11, mostLsn, mostLsn + 1, math.MaxInt, math.MinInt, math.MinInt + 7} {
		all = append(all, row(5, 3, 1, 9, next), row(5, 3, 2, 9, next))
	}
	for _, birth := range []int{1, 5, mostLsn - 1, mostLsn} {
		all = append(all, row(birth, 3, 1, birth, birth), row(birth, 3, 1, birth, birth+1), row(birth, 3, 1, birth-1, 0), row(birth, 3, 1, birth, -1))
	}
	return append(all, row(7, 3, 1, mostLsn, 7), row(7, 3, 1, mostLsn, mostLsn+1), row(mostLsn, 3, 1, mostLsn, mostLsn))
}

// strange are numbers that are neither a birth nor an id.
func strange() []int {
	return []int{0, -1, -3, -5, -mostLsn, mostLsn + 1, 1 << 61, math.MaxInt, math.MinInt, math.MinInt + 5}
}

// model is what a table must be, told plainly: its rows in the order in which they were put.
type model struct {
	most int
	rows []api.Row
}

// right is told by what is wrong.
func right(r api.Row) bool {
	switch {
	case r.Birth < 1, r.Birth > mostLsn, r.Id < 1, r.Id > mostId, r.State != 1 && r.State != 2:
		return false
	case r.Last < r.Birth, r.Last > mostLsn:
		return false
	}
	return r.Next == 0 || r.Next >= r.Birth+1 && r.Next <= r.Last
}

func (m *model) birth(birth int) int {
	return slices.IndexFunc(m.rows, func(r api.Row) bool { return r.Birth == birth })
}

func (m *model) id(id int) int {
	return slices.IndexFunc(m.rows, func(r api.Row) bool { return r.Id == id })
}

func (m *model) put(r api.Row) api.Errno {
	switch {
	case !right(r):
		return 30
	case m.birth(r.Birth) >= 0 || m.id(r.Id) >= 0:
		return 160
	case len(m.rows) == m.most:
		return 161
	}
	m.rows = append(m.rows, r)
	return 0
}

func (m *model) set(r api.Row) api.Errno {
	if !right(r) {
		return 30
	}
	i := m.birth(r.Birth)
	if i < 0 || m.rows[i].Id != r.Id {
		return 160
	}
	m.rows[i] = r
	return 0
}

// at gives the row of that place, and the zero row and false where there is none.
func (m *model) at(i int) (api.Row, bool) {
	if i < 0 {
		return api.Row{}, false
	}
	return m.rows[i], true
}

func (m *model) drop(birth int) (api.Row, bool) {
	i := m.birth(birth)
	r, ok := m.at(i)
	if ok {
		m.rows = slices.Delete(m.rows, i, i+1)
	}
	return r, ok
}

func (m *model) sorted() []api.Row {
	all := slices.Clone(m.rows)
	slices.SortFunc(all, func(a, b api.Row) int { return a.Birth - b.Birth })
	return all
}

// world is a table beside the model of what it must be.
type world struct {
	t *testing.T
	x *table.Table
	m model
}

// begin gives a table for so many rows, with these in it.
func begin(t *testing.T, most int, rows ...api.Row) *world {
	t.Helper()
	x, e := table.New(most)
	if x == nil || e != 0 {
		t.Fatalf("New(%d): %d", most, e)
	}
	w := &world{t: t, x: x, m: model{most: most}}
	for _, r := range rows {
		w.put(r)
	}
	return w
}

func (w *world) put(r api.Row) api.Errno {
	w.t.Helper()
	want := w.m.put(r)
	if e := w.x.Put(r); e != want {
		w.t.Errorf("Put(%v): %d, want %d", r, e, want)
	}
	return want
}

func (w *world) set(r api.Row) api.Errno {
	w.t.Helper()
	want := w.m.set(r)
	if e := w.x.Set(r); e != want {
		w.t.Errorf("Set(%v): %d, want %d", r, e, want)
	}
	return want
}

func (w *world) drop(birth int) {
	w.t.Helper()
	want, there := w.m.drop(birth)
	if r, ok := w.x.Drop(birth); r != want || ok != there {
		w.t.Errorf("Drop(%d): %v, %v, want %v, %v", birth, r, ok, want, there)
	}
}

// is looks at all that can be asked of the table: its rows, each id, the births that it has and those beside them, and these.
func (w *world) is(asked ...int) {
	w.t.Helper()
	want := w.m.sorted()
	if all := w.x.Rows(); !slices.Equal(all, want) {
		w.t.Errorf("Rows(): %v, want %v", all, want)
	}
	if n := w.x.Count(); n != len(want) {
		w.t.Errorf("Count(): %d, want %d", n, len(want))
	}
	for _, r := range want {
		asked = append(asked, r.Birth-1, r.Birth, r.Birth+1, r.Id, r.Last, r.Next)
	}
	for id := range mostId + 2 {
		asked = append(asked, id)
	}
	for _, n := range asked {
		r, ok := w.m.at(w.m.birth(n))
		if is, there := w.x.Get(n); is != r || there != ok {
			w.t.Errorf("Get(%d): %v, %v, want %v, %v", n, is, there, r, ok)
		}
		r, ok = w.m.at(w.m.id(n))
		if is, there := w.x.ById(n); is != r || there != ok {
			w.t.Errorf("ById(%d): %v, %v, want %v, %v", n, is, there, r, ok)
		}
	}
}
