package table_test

import (
	"math"
	"slices"
	"testing"

	"tidemark/api"
	"tidemark/table"
)

// P16.1: below and above what may be, where a narrower number would fold back on it, and at the ends of int.
func TestNewRefused(t *testing.T) {
	for _, most := range []int{0, -1, -8, 9, 10, 64, 256 + 1, 1<<32 + 1, math.MaxInt, math.MinInt, math.MinInt + 1} {
		if x, e := table.New(most); x != nil || e != 161 {
			t.Errorf("New(%d): %v, %d, want nil, 161", most, x, e)
		}
	}
}

// P16.1: a table has no rows at first, and takes just so many.
func TestNew(t *testing.T) {
	for most := 1; most <= mostRows; most++ {
		w := begin(t, most)
		w.is(strange()...)
		for i := range most + 2 {
			want := api.Errno(0)
			if i >= most {
				want = 161
			}
			if e := w.put(fresh(100-i, i+1)); e != want {
				t.Errorf("the model of %d rows: %d at the row %d", most, e, i)
			}
			w.is()
		}
	}
}

// tells looks at a row that was told, or at none.
func tells(t *testing.T, what string, r api.Row, ok bool, want api.Row, there bool) {
	t.Helper()
	if r != want || ok != there {
		t.Errorf("%s: %v, %v, want %v, %v", what, r, ok, want, there)
	}
}

// P16.1 to P16.6, the chapter's first three examples, told without the model.
func TestExamples(t *testing.T) {
	x, e := table.New(2)
	if x == nil || e != api.OK {
		t.Fatalf("New(2): %d", e)
	}
	puts := func(r api.Row, want api.Errno) {
		t.Helper()
		if e := x.Put(r); e != want {
			t.Errorf("Put(%v): %d, want %d", r, e, want)
		}
	}
	sets := func(r api.Row, want api.Errno) {
		t.Helper()
		if e := x.Set(r); e != want {
			t.Errorf("Set(%v): %d, want %d", r, e, want)
		}
	}
	none, first, second := api.Row{}, row(1, 64, 2, 9, 7), row(5, 3, 1, 5, 0)
	puts(second, api.OK)
	puts(row(5, 4, 1, 5, 0), api.ErrTxn)
	puts(row(6, 3, 1, 6, 0), api.ErrTxn)
	puts(first, api.OK)
	puts(row(2, 2, 1, 2, 0), api.ErrTable)
	puts(row(5, 4, 1, 5, 0), api.ErrTxn)

	if all := x.Rows(); !slices.Equal(all, []api.Row{first, second}) || x.Count() != 2 {
		t.Errorf("Rows(): %v, Count(): %d", all, x.Count())
	}
	r, ok := x.ById(64)
	tells(t, "ById(64)", r, ok, first, true)
	r, ok = x.Get(5)
	tells(t, "Get(5)", r, ok, second, true)
	r, ok = x.ById(5)
	tells(t, "ById(5)", r, ok, none, false)
	r, ok = x.Get(3)
	tells(t, "Get(3)", r, ok, none, false)

	sets(row(5, 3, 1, 40, 40), api.OK)
	sets(row(5, 4, 1, 40, 40), api.ErrTxn)
	sets(row(6, 3, 1, 40, 40), api.ErrTxn)
	r, ok = x.Drop(5)
	tells(t, "Drop(5)", r, ok, row(5, 3, 1, 40, 40), true)
	r, ok = x.Drop(5)
	tells(t, "Drop(5) again", r, ok, none, false)
	puts(row(6, 3, 1, 6, 0), api.OK)
}

// P16.2 and P16.3, the chapter's fourth example, told without the model: with room, in a full table, and where the birth is there.
func TestWrongExamples(t *testing.T) {
	wrong := []api.Row{
		row(0, 3, 1, 5, 0), row(5, 0, 1, 5, 0), row(5, 65, 1, 5, 0), row(5, 3, 3, 5, 0),
		row(5, 3, 1, 4, 0), row(5, 3, 1, 9, 5), row(5, 3, 1, 9, 10), row(5, 3, 1, 9, -1),
	}
	for _, full := range []bool{false, true} {
		x, _ := table.New(1)
		if full {
			x.Put(row(5, 3, 1, 5, 0))
		}
		for _, r := range wrong {
			if e := x.Put(r); e != api.ErrRange {
				t.Errorf("Put(%v): %d, full: %v", r, e, full)
			}
			if e := x.Set(r); e != api.ErrRange {
				t.Errorf("Set(%v): %d, full: %v", r, e, full)
			}
		}
	}
}

// P16.2: each right row may be put, first, last and between others, and is told as it was put.
func TestPut(t *testing.T) {
	for _, r := range rightRows() {
		if !right(r) {
			t.Fatalf("the model takes %v for wrong", r)
		}
		w := begin(t, mostRows)
		if e := w.put(r); e != 0 {
			t.Errorf("the model: %d of %v", e, r)
		}
		w.is(strange()...)
		w.put(fresh(1<<20, 10))
		w.put(fresh(1<<40, 11))
		w.is(strange()...)

		w = begin(t, mostRows, fresh(1<<40, 11), fresh(1<<20, 10))
		w.put(r)
		w.is(strange()...)
	}
}

// P16.2 and P16.3: what is not right is refused ahead of all else, and nothing has changed.
func TestWrongRows(t *testing.T) {
	for _, rows := range [][]api.Row{nil, {fresh(5, 3)}, {fresh(9, 3), fresh(5, 4)}} {
		for most := max(1, len(rows)); most <= 3; most++ {
			w := begin(t, most, rows...)
			for _, r := range wrongRows() {
				if e := w.put(r); e != 30 {
					t.Fatalf("the model: %d of %v", e, r)
				}
				w.set(r)
			}
			w.is(strange()...)
		}
	}
}

// P16.2: a birth or an id that is there is refused, in a full table too; nothing has changed.
func TestPutTwice(t *testing.T) {
	rows := []api.Row{fresh(5, 3), row(1, 64, 2, 9, 7), row(mostLsn, 1, 1, mostLsn, 0)}
	for most := 3; most <= 4; most++ {
		w := begin(t, most, rows...)
		for _, a := range rows {
			for _, b := range rows {
				for _, r := range []api.Row{fresh(a.Birth, b.Id), row(a.Birth, b.Id, 2, mostLsn, 0), fresh(a.Birth, 17), fresh(18, b.Id)} {
					if e := w.put(r); e != 160 {
						t.Errorf("the model: %d of %v", e, r)
					}
				}
			}
		}
		w.is(strange()...)
	}
}

// P16.2: a full table takes none, whatever it has; nothing has changed; behind a Drop it takes one again.
func TestPutFull(t *testing.T) {
	for most := 1; most <= mostRows; most++ {
		w := begin(t, most)
		for i := range most {
			w.put(fresh(10*i+10, i+1))
		}
		for i := range most + 1 {
			if e := w.put(fresh(10*i+5, 60)); e != 161 {
				t.Errorf("the model: %d", e)
			}
		}
		w.is()
		w.drop(10 * most)
		w.put(fresh(3, 60))
		w.put(fresh(4, 61))
		w.is()
	}
}

// P16.3: the row of that birth and id alone changes, in a full table too.
func TestSet(t *testing.T) {
	for most := 4; most <= 5; most++ {
		for _, r := range rightRows() {
			old := row(r.Birth, r.Id, 1, r.Birth, 0)
			w := begin(t, most, fresh(1<<20, 10), old, fresh(1<<40, 11), row(3, 12, 2, 9, 7))
			if e := w.set(r); e != 0 {
				t.Errorf("the model: %d of %v", e, r)
			}
			w.is()
			w.set(old)
			w.is()
		}
	}
}

// P16.3: what has no row, or a row of another id, is refused; nothing has changed, and no row is new.
func TestSetRefused(t *testing.T) {
	rows := []api.Row{fresh(5, 3), row(1, 64, 2, 9, 7), row(mostLsn, 1, 1, mostLsn, 0)}
	w := begin(t, mostRows)
	for _, r := range rightRows() {
		w.set(r)
	}
	w.is()
	for _, r := range rows {
		w.put(r)
	}
	for _, r := range []api.Row{fresh(5, 4), fresh(5, 64), fresh(5, 1), fresh(1, 3), fresh(1, 63), fresh(6, 3), fresh(4, 3), fresh(9, 64), fresh(mostLsn-1, 1), fresh(mostLsn, 64), fresh(7, 7)} {
		if e := w.set(r); e != 160 {
			t.Errorf("the model: %d of %v", e, r)
		}
	}
	w.is(strange()...)
}

// P16.4: a birth is not an id, and neither is another number of the row; what is neither finds nothing.
func TestFind(t *testing.T) {
	w := begin(t, mostRows, row(3, 5, 1, 64, 60), row(5, 3, 2, 63, 62), row(64, 1, 1, 64, 0), row(1, 64, 1, 3, 2), row(2, 7, 2, mostLsn, 0))
	w.is(strange()...)
	for _, low := range []int{1, 3, 5, 64} {
		w.is(low+256, low+1<<16, low+1<<32, low+math.MinInt, -low)
	}
}

// P16.4 and P16.6: asking changes nothing, however often, and whatever is asked for.
func TestAskingChangesNothing(t *testing.T) {
	w := begin(t, 3, fresh(7, 1), fresh(2, 2), fresh(5, 3))
	for range 3 {
		w.is(strange()...)
	}
	w.put(fresh(9, 9))
	w.drop(2)
	w.is()
}

// P16.5: each row of each table goes, and no other with it; then it is gone.
func TestDrop(t *testing.T) {
	births := []int{40, 10, mostLsn, 1, 30, 20, 1 << 32, 50}
	for count := range len(births) + 1 {
		for _, birth := range births {
			w := begin(t, mostRows)
			for i, b := range births[:count] {
				w.put(row(b, i+1, 2, b, 0))
			}
			w.drop(birth)
			w.is(births...)
			w.drop(birth)
			w.is(births...)
		}
	}
}

// P16.5: what is no row's birth drops nothing, an id neither.
func TestDropNone(t *testing.T) {
	w := begin(t, mostRows, fresh(5, 3), row(1, 64, 2, 9, 7), fresh(mostLsn, 2))
	for _, n := range append(strange(), 2, 3, 4, 6, 7, 9, 64, 5+256, 5+1<<32, mostLsn-1) {
		w.drop(n)
	}
	w.is(strange()...)
	if w.x.Count() != 3 {
		t.Errorf("Count(): %d, want 3", w.x.Count())
	}
}

// P16.8: what is done to one is not seen in another, not even if the other was made behind it.
func TestTwoShareNothing(t *testing.T) {
	a, b := begin(t, 2), begin(t, 3)
	a.put(fresh(5, 3))
	b.put(row(5, 3, 2, 9, 7))
	b.put(fresh(6, 4))
	c := begin(t, 2)
	c.is()
	a.set(row(5, 3, 1, 40, 40))
	b.drop(6)
	c.put(fresh(5, 9))
	for _, w := range []*world{a, b, c} {
		w.is()
	}
}

// scribble writes over a list and its spare room.
func scribble(all []api.Row) {
	all = all[:cap(all)]
	for i := range all {
		all[i] = row(-5, -5, -5, -5, -5)
	}
}

// P16.8: what is told is new memory, its spare room too.
func TestNewMemory(t *testing.T) {
	w := begin(t, mostRows)
	for i := range mostRows {
		first, second := w.x.Rows(), w.x.Rows()
		want := slices.Clone(second)
		scribble(first)
		if !slices.Equal(second, want) {
			t.Errorf("Rows(): %v behind a change of what was told ahead of it", second)
		}
		scribble(second)
		w.is()
		kept := w.x.Rows()
		w.put(fresh(50-i, i+1))
		w.set(row(50-i, i+1, 2, 90, 80))
		if !slices.Equal(kept, want) {
			t.Errorf("what was told changed by a Put and a Set: %v", kept)
		}
		w.is()
	}
	for i := range mostRows {
		kept := w.x.Rows()
		want := slices.Clone(kept)
		w.drop(50 - i)
		if !slices.Equal(kept, want) {
			t.Errorf("what was told changed by a Drop: %v", kept)
		}
		scribble(kept)
		w.is()
	}
}
