package record

import "tidemark/api"

// slotsEnd is the place behind the slots' bytes of the greatest page.
const slotsEnd = api.PageHead + api.MaxSlots*api.SlotBytes

// isRight tells whether a record has what its kind asks for. Each kind hands to isBlank the record without the fields that it has looked at.
func isRight(r api.Record) bool {
	rest := r
	switch r.Kind {
	case api.KBegin:
		rest.Id = 0
		return isBlank(rest) && isId(r.Id)
	case api.KUpdate:
		rest.Birth, rest.Prev, rest.Page, rest.From, rest.Before, rest.After = 0, 0, 0, 0, nil, nil
		return isBlank(rest) && isOwned(r) && isRange(r) && partAtEnds(r.Before, r.After)
	case api.KUndo:
		rest.Birth, rest.Prev, rest.Page, rest.From, rest.After, rest.Next = 0, 0, 0, 0, nil, 0
		return isBlank(rest) && isOwned(r) && isRange(r) && isLsnOrNone(r.Next)
	case api.KCommit, api.KAbort, api.KEnd:
		rest.Birth, rest.Prev = 0, 0
		return isBlank(rest) && isOwned(r)
	case api.KCheck:
		rest.Rows, rest.Dirty = nil, nil
		return isBlank(rest) && isTable(r.Rows) && isDirty(r.Dirty)
	}
	return false
}

// isBlank tells whether all fields but the kind are zero.
func isBlank(r api.Record) bool {
	numbers := r.Birth == 0 && r.Prev == 0 && r.Id == 0 && r.Page == 0 && r.From == 0 && r.Next == 0
	return numbers && len(r.Before) == 0 && len(r.After) == 0 && len(r.Rows) == 0 && len(r.Dirty) == 0
}

// isOwned tells whether a record says whose it is, and what is ahead of it.
func isOwned(r api.Record) bool { return isLsn(r.Birth) && isLsn(r.Prev) }

// isRange tells whether a change lies in the slots' bytes of a page.
func isRange(r api.Record) bool {
	// Not From + n: that could wrap round.
	return isPage(r.Page) && len(r.After) > 0 && r.From >= api.PageHead && r.From <= slotsEnd-len(r.After)
}

// partAtEnds tells whether two lists, of which after has a byte, are of one length and part in their first and last bytes.
func partAtEnds(before, after []byte) bool {
	last := len(after) - 1
	return len(before) == len(after) && before[0] != after[0] && before[last] != after[last]
}

func isTable(rows []api.Row) bool {
	if len(rows) > api.MaxTable {
		return false
	}
	below := 0 // no birth, and below all of them
	for _, w := range rows {
		if w.Birth <= below || !isRow(w) {
			return false
		}
		below = w.Birth
	}
	return true
}

func isRow(w api.Row) bool {
	return isLsn(w.Birth) && isId(w.Id) && (w.State == api.SOpen || w.State == api.SAborting) && isLsn(w.Last) && isLsnOrNone(w.Next)
}

func isDirty(recs []api.Rec) bool {
	if len(recs) > api.MaxPages {
		return false
	}
	below := -1 // no page, and below all of them
	for _, d := range recs {
		if d.Page <= below || !isPage(d.Page) || !isLsn(d.Lsn) {
			return false
		}
		below = d.Page
	}
	return true
}

func isLsn(n int) bool       { return n >= 1 && n <= api.MaxLsn }
func isLsnOrNone(n int) bool { return n == 0 || isLsn(n) }
func isId(n int) bool        { return n >= 1 && n <= api.MaxId }
func isPage(n int) bool      { return n >= 0 && n < api.MaxPages }
