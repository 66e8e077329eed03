package look

import (
	"bytes"
	"cmp"
	"maps"
	"slices"

	"tidemark/api"
	"tidemark/scan"
	"tidemark/table"
)

// book keeps what the records so far say of their transactions and pages.
type book struct {
	base     int
	pages    int
	slotsEnd int
	rows     *table.Table      // a table knows no SCommitted: such a row stands there as SOpen, see withState
	commits  map[int]int       // by the birth: the commit record's LSN, of rows that are there no more, too
	left     map[int][]update  // by the birth of a row that is there, in their order
	holders  [api.MaxPages]int // of each page: the birth of the row that is there and whose page it is; 0: none
}

func newBook(base, pages, slots int) *book {
	rows, _ := table.New(api.MaxTable) // as many as a table may have: it is not refused
	return &book{
		base: base, pages: pages, slotsEnd: api.PageHead + slots*api.SlotBytes,
		rows: rows, commits: map[int]int{}, left: map[int][]update{},
	}
}

// all gives the rows that are there, by birth, rising.
func (b *book) all() []api.Row {
	rows := b.rows.Rows()
	for i, r := range rows {
		rows[i] = b.withState(r)
	}
	return rows
}

// withState gives a row of the table the state that it has.
func (b *book) withState(r api.Row) api.Row {
	if b.commits[r.Birth] != 0 {
		r.State = api.SCommitted
	}
	return r
}

// goOn has a record be the last of its row, which has that state in the table behind it.
func (b *book) goOn(f scan.Found, state int) {
	r, _ := b.rows.Get(f.R.Birth)
	r.State, r.Last, r.Next = state, f.Lsn, lastOf(b.left[r.Birth])
	b.rows.Set(r)
}

// isNext tells whether a record goes on where a row that is there has come to.
func (b *book) isNext(r api.Record) bool {
	row, there := b.rows.Get(r.Birth)
	return there && row.Last == r.Prev
}

// isOpen tells whether a row is there with that birth, neither committed nor on its way back.
func (b *book) isOpen(birth int) bool {
	row, _ := b.rows.Get(birth)
	return b.withState(row).State == api.SOpen
}

// isWithin tells whether an update lies in the slots of one of the pages.
func (b *book) isWithin(r api.Record) bool {
	return r.Page < b.pages && r.From+len(r.After) <= b.slotsEnd
}

func (b *book) isHeldByNoOther(r api.Record) bool {
	holder := b.holders[r.Page]
	return holder == 0 || holder == r.Birth
}

// undoesLast tells whether a compensation takes back just the update that its row has left last.
func (b *book) undoesLast(r api.Record) bool {
	left := b.left[r.Birth]
	if len(left) == 0 {
		return false
	}
	ahead, u := left[:len(left)-1], left[len(left)-1].R
	return r.Page == u.Page && r.From == u.From && bytes.Equal(r.After, u.Before) && r.Next == lastOf(ahead)
}

// isTold tells whether a checkpoint's rows are those that are there. (A record has no row that is SCommitted: so where one is there, they part.)
func (b *book) isTold(rows []api.Row) bool {
	return slices.Equal(rows, b.all())
}

// mayLack tells whether pages may be dirty as the checkpoint with that LSN says.
func (b *book) mayLack(dirty []api.Rec, check int) bool {
	return !slices.ContainsFunc(dirty, func(d api.Rec) bool {
		return d.Page >= b.pages || d.Lsn <= b.base || d.Lsn > check
	})
}

// result tells what the records say, but for what hangs on a checkpoint, and their bytes.
func (b *book) result() Result {
	r := Result{Rows: b.all(), Winners: slices.Sorted(maps.Keys(b.commits))}
	for _, row := range r.Rows {
		if row.State == api.SOpen {
			r.Fresh = append(r.Fresh, row.Birth)
		}
		for _, u := range b.left[row.Birth] {
			r.Undo = append(r.Undo, u.Lsn)
		}
	}
	slices.SortFunc(r.Undo, func(x, y int) int { return cmp.Compare(y, x) })
	return r
}

// lastOf gives the LSN of the last of these updates, 0 where there is none.
func lastOf(left []update) int {
	if len(left) == 0 {
		return 0
	}
	return left[len(left)-1].Lsn
}
