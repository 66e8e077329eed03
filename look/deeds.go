package look

import (
	"tidemark/api"
	"tidemark/scan"
)

// deed is what a record does to the rows; each kind of record has a type of its own.
type deed interface {
	do(b *book)
}

type (
	begin      scan.Found
	update     scan.Found
	undo       scan.Found
	commit     scan.Found
	abort      scan.Found
	end        scan.Found
	checkpoint scan.Found
)

// deedOf gives a record the type of its kind.
func deedOf(f scan.Found) deed {
	switch f.R.Kind {
	case api.KBegin:
		return begin(f)
	case api.KUpdate:
		return update(f)
	case api.KUndo:
		return undo(f)
	case api.KCommit:
		return commit(f)
	case api.KAbort:
		return abort(f)
	case api.KEnd:
		return end(f)
	}
	return checkpoint(f) // a log's records have no other kind
}

// allows tells whether a deed has what it asks for, as the rows are ahead of it.
func (b *book) allows(d deed) bool {
	switch d := d.(type) {
	case begin:
		_, taken := b.rows.ById(d.R.Id)
		return !taken && b.rows.Count() < api.MaxTable
	case update:
		return b.isNext(d.R) && b.isOpen(d.R.Birth) && b.isWithin(d.R) && b.isHeldByNoOther(d.R)
	case undo:
		// A row that is SCommitted has nothing left, so this refuses it, too.
		return b.isNext(d.R) && b.undoesLast(d.R)
	case commit:
		return b.isNext(d.R) && b.isOpen(d.R.Birth)
	case abort:
		return b.isNext(d.R) && b.isOpen(d.R.Birth)
	case end:
		return b.isNext(d.R) && len(b.left[d.R.Birth]) == 0
	case checkpoint:
		return b.isTold(d.R.Rows) && b.mayLack(d.R.Dirty, d.Lsn)
	}
	return false
}

func (d begin) do(b *book) {
	b.rows.Put(api.Row{Birth: d.Lsn, Id: d.R.Id, State: api.SOpen, Last: d.Lsn})
}

func (d update) do(b *book) {
	b.holders[d.R.Page] = d.R.Birth
	b.left[d.R.Birth] = append(b.left[d.R.Birth], d)
	b.goOn(scan.Found(d), api.SOpen)
}

func (d undo) do(b *book) {
	left := b.left[d.R.Birth]
	b.left[d.R.Birth] = left[:len(left)-1]
	b.goOn(scan.Found(d), api.SAborting)
}

func (d commit) do(b *book) {
	delete(b.left, d.R.Birth)
	b.commits[d.R.Birth] = d.Lsn
	b.goOn(scan.Found(d), api.SOpen) // that it is SCommitted, commits tells
}

func (d abort) do(b *book) {
	b.goOn(scan.Found(d), api.SAborting)
}

func (d end) do(b *book) {
	b.rows.Drop(d.R.Birth)
	delete(b.left, d.R.Birth)
	for page, holder := range b.holders {
		if holder == d.R.Birth {
			b.holders[page] = 0
		}
	}
}

func (d checkpoint) do(b *book) {}
