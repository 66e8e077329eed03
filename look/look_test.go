package look_test

import (
	"math"
	"slices"
	"testing"

	"tidemark/api"
	"tidemark/look"
	"tidemark/record"
)

func TestFirstExample(t *testing.T) { // P22.1, P22.3
	takes(t, "no byte", nil, 0, 0, 2, 2, Result{Redo: 1})
	takes(t, "no byte", []byte{}, 0, 0, 2, 2, Result{Redo: 1})
	refuses(t, "check 1", nil, 0, 1, 2, 2)
	refuses(t, "base -1", nil, -1, 0, 2, 2)
	refuses(t, "base 2^60", nil, mostLsn, 0, 2, 2)
	refuses(t, "pages 0", nil, 0, 0, 0, 2)
	refuses(t, "slots 9", nil, 0, 0, 2, 9)
}

func TestSecondExample(t *testing.T) { // P22.3
	b, u, c := begin(7), update(1, 1, 0, 16), commit(1, 35)
	told(t, "an update", 0, Result{Rows: []api.Row{row(1, 7, 1, 35, 35)}, Fresh: []int{1}, Undo: []int{35}, Redo: 1}, b, u)
	told(t, "a commit", 0, Result{Rows: []api.Row{row(1, 7, 3, 75, 0)}, Winners: []int{1}, Redo: 1}, b, u, c)
	told(t, "an end", 0, Result{Winners: []int{1}, Redo: 1}, b, u, c, end(1, 75))
	if n := len(logged(t, 0, b, u, c, end(1, 75))); n != 140 {
		t.Errorf("%d bytes, want 140", n)
	}
}

func TestThirdExample(t *testing.T) { // P22.2, P22.3
	b, u, c := begin(7), update(1, 1, 0, 16), undo(1, 35, 0, 16, 0)
	told(t, "undone", 0, Result{Rows: []api.Row{row(1, 7, 2, 75, 0)}, Redo: 1}, b, u, c)
	after01 := c
	after01.After = []byte{1}
	broken(t, "After 01", b, u, after01)
	broken(t, "Next 1", b, u, undo(1, 35, 0, 16, 1))
	broken(t, "at 17", b, u, undo(1, 35, 0, 17, 0))
	told(t, "ended", 0, Result{Redo: 1}, b, u, c, end(1, 75))
	broken(t, "committed", b, u, c, commit(1, 75))
}

func TestFourthExample(t *testing.T) { // P22.2
	broken(t, "7 twice", begin(7), begin(7))
	two := []api.Record{begin(7), begin(8)}
	broken(t, "Prev", append(two, update(35, 1, 0, 16))...)
	three := append(two, update(35, 35, 0, 16))
	broken(t, "held", append(three, update(1, 1, 0, 16))...)
	right(t, "page 1", append(three, update(1, 1, 1, 16))...)
	broken(t, "page 2", append(three, update(1, 1, 2, 16))...)
	right(t, "at 47", append(three, update(1, 1, 1, 47))...)
	broken(t, "at 48", append(three, update(1, 1, 1, 48))...)
}

func TestFifthExample(t *testing.T) { // P22.2, P22.3
	b, u, rows := begin(7), update(1, 1, 0, 16), []api.Row{row(1, 7, 1, 35, 35)}
	want := Result{Rows: rows, Fresh: []int{1}, Undo: []int{35}, Redo: 1}
	told(t, "a check", 0, want, b, u, checkpoint(rows, api.Rec{Page: 0, Lsn: 35}))
	want.Redo = 35
	told(t, "check 75", 75, want, b, u, checkpoint(rows, api.Rec{Page: 0, Lsn: 35}))
	refuses(t, "check 35", logged(t, 0, b, u, checkpoint(rows, api.Rec{Page: 0, Lsn: 35})), 0, 35, 2, 2)
	broken(t, "without the row", b, u, checkpoint(nil, api.Rec{Page: 0, Lsn: 35}))
	broken(t, "the rec {0, 76}", b, u, checkpoint(rows, api.Rec{Page: 0, Lsn: 76}))
	want.Redo = 75
	told(t, "the rec {0, 75}", 75, want, b, u, checkpoint(rows, api.Rec{Page: 0, Lsn: 75}))
	want.Redo = 136
	told(t, "without a rec", 75, want, b, u, checkpoint(rows))
}

func TestSixthExample(t *testing.T) { // P22.2
	broken(t, "an update is left", begin(7), update(1, 1, 0, 16), end(1, 35))
	told(t, "an end at once", 0, Result{Redo: 1}, begin(7), end(1, 1))
}

// P22.1: each argument at its edges and beyond, with a log that is right and without one.
func TestArguments(t *testing.T) {
	empty := func(base int) Result { return Result{Redo: base + 1} }
	for _, base := range []int{0, 1, 2, 65535, 1 << 32, 1 << 59, mostBase - 1, mostBase} {
		for pages := 1; pages <= 16; pages++ {
			for slots := 1; slots <= 8; slots++ {
				takes(t, "no byte", nil, base, 0, pages, slots, empty(base))
			}
		}
		log := logged(t, base, begin(7), end(base+1, base+1))
		takes(t, "two records", log, base, 0, 16, 8, Result{Redo: base + 1, Bytes: 67})
		for _, n := range []int{0, -1, -2, -16, 17, 18, 32, 256 + 2, 1<<32 + 2, math.MaxInt, math.MinInt, math.MinInt + 2} {
			refuses(t, "pages", log, base, 0, n, 2)
			refuses(t, "pages", nil, base, 0, n, 2)
		}
		for _, n := range []int{0, -1, -2, -8, 9, 10, 16, 256 + 2, 1<<32 + 2, 1 << 60, math.MaxInt, math.MinInt, math.MinInt + 2} {
			refuses(t, "slots", log, base, 0, 2, n)
			refuses(t, "slots", nil, base, 0, 2, n)
		}
	}
	for _, base := range []int{-1, -2, -34, -mostLsn, mostBase + 1, mostBase + 2, mostLsn - 65536, mostLsn - 1, mostLsn, mostLsn + 1, 1 << 61, math.MaxInt, math.MinInt, math.MinInt + 1} {
		refuses(t, "base", nil, base, 0, 2, 2)
		refuses(t, "base and check", nil, base, base, 2, 2)
		log, _, are := logOf(base, begin(7)) // right frames, where LSNs are above 0 and not too great
		if are {
			refuses(t, "base of a right log", log, base, 0, 2, 2)
		}
	}
}

// P22.2, 1: no Id twice among the rows that are there, at most eight of these; committed and aborting ones are there, too.
func TestBegins(t *testing.T) {
	b, u := begin(7), update(1, 1, 0, 16)
	for what, ahead := range map[string][]api.Record{
		"begun": {b}, "updated": {b, u}, "undone": {b, u, undo(1, 35, 0, 16, 0)},
		"committed": {b, u, commit(1, 35)}, "committed at once": {b, commit(1, 1)}, "aborting": {b, abort(1, 1)},
	} {
		broken(t, what, append(slices.Clone(ahead), b)...)
		right(t, what+", another Id", append(slices.Clone(ahead), begin(8))...)
		broken(t, what+", another Id twice", append(slices.Clone(ahead), begin(8), begin(8))...)
	}
	// Behind its end the Id is free.
	right(t, "ended", b, end(1, 1), b, end(68, 68), b)
	right(t, "won", b, u, commit(1, 35), end(1, 75), b)
	broken(t, "of another", b, begin(8), end(35, 35), b)
	right(t, "the least and the greatest Id", begin(1), begin(64))
}

func TestAtMostEightRows(t *testing.T) { // P22.2, rule 1
	for _, how := range []string{"open", "aborting", "committed"} {
		g := newLong(t, 0)
		var births []int
		for id := 1; id <= 8; id++ {
			births = append(births, g.add(begin(id)))
			switch how {
			case "aborting":
				g.add(abort(births[id-1], 0))
			case "committed":
				g.add(commit(births[id-1], 0))
			}
		}
		right(t, how, g.records...)
		broken(t, how+", a ninth", append(slices.Clone(g.records), begin(9))...)
		g.add(end(births[3], 0))
		right(t, how+", one ended", append(slices.Clone(g.records), begin(9))...)
		right(t, how+", one ended", append(slices.Clone(g.records), begin(4))...)
		broken(t, how+", one ended, two begun", append(slices.Clone(g.records), begin(9), begin(10))...)
	}
}

// owned gives a record of each kind that is some row's, where one update at 35 is left.
func owned(birth, prev int) map[string]api.Record {
	return map[string]api.Record{
		"update": update(birth, prev, 0, 17), "undo": undo(birth, prev, 0, 16, 0), "commit": commit(birth, prev), "abort": abort(birth, prev),
	}
}

// P22.2, 2: a row that is there has the Birth, and Prev is its Last.
func TestOwners(t *testing.T) {
	b, u := begin(7), update(1, 1, 0, 16)
	for what := range owned(1, 1) {
		right(t, what, b, u, owned(1, 35)[what])
		for _, prev := range []int{1, 2, 34, 36, 75, 76, 35 + 256, mostLsn} {
			broken(t, what+": Prev", b, u, owned(1, prev)[what])
		}
		for _, birth := range []int{2, 34, 35, 36, 75, 257, mostLsn} {
			broken(t, what+": Birth", b, u, owned(birth, 35)[what])
			broken(t, what+": Birth, Prev", b, u, owned(birth, birth)[what])
		}
		broken(t, what+" without a begin", owned(1, 1)[what])
		// Another's Last, another's birth.
		broken(t, what+": another's Prev", b, u, begin(8), owned(1, 75)[what])
		broken(t, what+": another's Birth", b, u, begin(8), owned(75, 35)[what])
		right(t, what+" behind another's", b, u, begin(8), owned(1, 35)[what])
		// A checkpoint is no row's: Last stays.
		rows := []api.Row{row(1, 7, 1, 35, 35)}
		right(t, what+" behind a check", b, u, checkpoint(rows), owned(1, 35)[what])
		broken(t, what+": a check's Prev", b, u, checkpoint(rows), owned(1, 75)[what])
		// Behind the end there is no row.
		broken(t, what+" behind the end", b, u, commit(1, 35), end(1, 75), owned(1, 108)[what])
		broken(t, what+" behind the end", b, u, commit(1, 35), end(1, 75), owned(1, 75)[what])
		broken(t, what+" behind the end", b, u, undo(1, 35, 0, 16, 0), end(1, 75), owned(1, 122)[what])
	}
	right(t, "an end", b, commit(1, 1), end(1, 35))
	broken(t, "an end: Prev", b, commit(1, 1), end(1, 1))
	broken(t, "an end: Birth", b, commit(1, 1), end(35, 35))
	broken(t, "an end behind the end", b, commit(1, 1), end(1, 35), end(1, 68))
	broken(t, "an end without a begin", end(1, 1))
	// Each record is the Prev of the next: all kinds.
	right(t, "all kinds", b, u, update(1, 35, 1, 16), abort(1, 75), undo(1, 115, 1, 16, 35), undo(1, 148, 0, 16, 0), end(1, 195))
	broken(t, "an abort passed over", b, u, abort(1, 35), undo(1, 35, 0, 16, 0))
	broken(t, "an undo passed over", b, u, update(1, 35, 1, 16), undo(1, 75, 1, 16, 35), undo(1, 75, 0, 16, 0))
	broken(t, "a commit passed over", b, u, commit(1, 35), end(1, 35))
}

// P22.2, 3: only an open row updates.
func TestUpdatesOfOpenRowsAlone(t *testing.T) {
	b, u := begin(7), update(1, 1, 0, 16)
	right(t, "begun", b, u)
	right(t, "updated", b, u, update(1, 35, 0, 16))
	broken(t, "committed", b, commit(1, 1), update(1, 35, 0, 16))
	broken(t, "aborting", b, abort(1, 1), update(1, 35, 0, 16))
	broken(t, "undone", b, u, undo(1, 35, 0, 16, 0), update(1, 75, 0, 16))
	broken(t, "one of two undone", b, u, update(1, 35, 1, 16), undo(1, 75, 1, 16, 35), update(1, 115, 1, 16))
}

// P22.2, 3: pages below pages, the range within the slots; all numbers of pages, slots, and bytes.
func TestUpdatesWithinThePages(t *testing.T) {
	for pages := 1; pages <= 16; pages++ {
		for page := range 16 {
			log := logged(t, 0, begin(7), update(1, 1, page, 16))
			if page < pages {
				takes(t, "a page", log, 0, 0, pages, 1, Result{Rows: []api.Row{row(1, 7, 1, 35, 35)}, Fresh: []int{1}, Undo: []int{35}, Redo: 1, Bytes: 74})
			} else {
				refuses(t, "a page", log, 0, 0, pages, 1)
			}
		}
	}
	for slots := 1; slots <= 8; slots++ {
		for from := 16; from < 144; from++ {
			for n := 1; from+n <= 144; n++ {
				if from > 20 && n > 3 && from+n < 16+16*slots-2 { // far from both edges
					continue
				}
				log := logged(t, 0, begin(7), wide(1, 1, 0, from, n))
				_, e := look.Analyse(log, 0, 0, 1, slots)
				if want := from+n <= 16+16*slots; (e == api.OK) != want || e != api.OK && e != corrupt {
					t.Fatalf("slots %d, at %d, %d bytes: %d", slots, from, n, e)
				}
			}
		}
	}
}

// P22.2, 3: a page is one row's at a time, from its update to its end, whatever it does in between.
func TestPagesOfOneRow(t *testing.T) {
	two := []api.Record{begin(7), begin(8), update(1, 1, 0, 16)} // at 1, 35, 69; the next is at 109
	held := func(what string, last int, more ...api.Record) {
		t.Helper()
		all := append(slices.Clone(two), more...)
		broken(t, what, append(all, update(35, 35, 0, 32))...)
		right(t, what+", the other page", append(all, update(35, 35, 1, 32))...)
		right(t, what+", ended", append(all, end(1, last))...)
		right(t, what+", ended: free", append(all, end(1, last), update(35, 35, 0, 32))...)
	}
	held("undone", 109, undo(1, 69, 0, 16, 0))
	held("committed", 109, commit(1, 69))
	held("aborting and undone", 142, abort(1, 69), undo(1, 109, 0, 16, 0))
	broken(t, "open", append(two, update(35, 35, 0, 32))...)
	broken(t, "aborting", append(two, abort(1, 69), update(35, 35, 0, 32))...)
	right(t, "its own", append(two, update(1, 69, 0, 32))...)
	// Both pages are let go at once; those of others stay.
	both := append(slices.Clone(two), update(1, 69, 1, 16), commit(1, 109))
	broken(t, "the second", append(slices.Clone(both), update(35, 35, 1, 16))...)
	right(t, "both free", append(slices.Clone(both), end(1, 149), update(35, 35, 1, 16), update(35, 215, 0, 16))...)
	broken(t, "the other's", begin(7), begin(8), update(1, 1, 0, 16), update(35, 35, 1, 16), commit(35, 109), end(35, 149), begin(8), update(215, 215, 0, 16))
	right(t, "the other's, free", begin(7), begin(8), update(1, 1, 0, 16), update(35, 35, 1, 16), commit(35, 109), end(35, 149), begin(8), update(215, 215, 1, 16))
	// From hand to hand.
	right(t, "in turn", begin(7), update(1, 1, 0, 16), commit(1, 35), end(1, 75), begin(7), update(141, 141, 0, 16), commit(141, 175), end(141, 215), begin(7), update(281, 281, 0, 16))
}

// P22.2, 4: a compensation is that of the update that is left last, in each of its fields.
func TestCompensations(t *testing.T) {
	b := begin(7)
	u := api.Record{Kind: 2, Birth: 1, Prev: 1, Page: 0, From: 18, Before: []byte{1, 2, 3}, After: []byte{9, 2, 9}}  // at 35, 44 bytes
	v := api.Record{Kind: 2, Birth: 1, Prev: 35, Page: 1, From: 20, Before: []byte{4, 5, 6}, After: []byte{9, 5, 9}} // at 79
	c := api.Record{Kind: 3, Birth: 1, Prev: 79, Page: 1, From: 20, After: []byte{4, 5, 6}, Next: 35}                // at 123, 49 bytes
	d := api.Record{Kind: 3, Birth: 1, Prev: 123, Page: 0, From: 18, After: []byte{1, 2, 3}}                         // at 172
	with := func(r api.Record, change func(r *api.Record)) api.Record {
		r.After = slices.Clone(r.After)
		change(&r)
		return r
	}
	both := right(t, "both", b, u, v, c, d)
	if !slices.Equal(both.Rows, []api.Row{row(1, 7, 2, 172, 0)}) {
		t.Errorf("%+v", both)
	}
	right(t, "ended", b, u, v, c, d, end(1, 172))
	for what, change := range map[string]func(r *api.Record){
		"page":           func(r *api.Record) { r.Page = 1 - r.Page },
		"page beyond":    func(r *api.Record) { r.Page = 15 },
		"from below":     func(r *api.Record) { r.From-- },
		"from above":     func(r *api.Record) { r.From++ },
		"the first byte": func(r *api.Record) { r.After[0]++ },
		"a middle byte":  func(r *api.Record) { r.After[1]++ },
		"the last byte":  func(r *api.Record) { r.After[2]++ },
		"shorter":        func(r *api.Record) { r.After = r.After[:2] },
		"longer":         func(r *api.Record) { r.After = append(r.After, 0) },
		"the After":      func(r *api.Record) { r.After[0], r.After[2] = 9, 9 },
		"next the begin": func(r *api.Record) { r.Next = 1 },
		"next 2":         func(r *api.Record) { r.Next = 2 },
		"next beyond":    func(r *api.Record) { r.Next = 34 },
		"next 36":        func(r *api.Record) { r.Next = 36 },
		"next itself":    func(r *api.Record) { r.Next = 79 },
		"next great":     func(r *api.Record) { r.Next = mostLsn },
	} {
		broken(t, what, b, u, v, with(c, change))
		broken(t, what, b, u, v, c, with(d, change))
	}
	broken(t, "no next", b, u, v, with(c, func(r *api.Record) { r.Next = 0 }))
	broken(t, "a next", b, u, v, c, with(d, func(r *api.Record) { r.Next = 35 }))
	broken(t, "the first first", b, u, v, with(d, func(r *api.Record) { r.Prev = 79 }))
	broken(t, "twice", b, u, v, c, with(c, func(r *api.Record) { r.Prev = 123 }))
	broken(t, "nothing left", b, u, v, c, d, with(d, func(r *api.Record) { r.Prev = 172 }))
	broken(t, "nothing made", b, undo(1, 1, 0, 16, 0))
	broken(t, "nothing made, aborting", b, abort(1, 1), undo(1, 35, 0, 16, 0))
	broken(t, "committed", b, u, v, commit(1, 79), with(c, func(r *api.Record) { r.Prev = 123 }))
	right(t, "aborting", b, u, v, abort(1, 79), with(c, func(r *api.Record) { r.Prev = 123 }))
	broken(t, "another's", begin(7), begin(8), update(35, 35, 0, 16), undo(1, 1, 0, 16, 0))
	// Of two alike the Next tells which is meant.
	right(t, "two alike", b, update(1, 1, 0, 16), update(1, 35, 0, 16), undo(1, 75, 0, 16, 35), undo(1, 115, 0, 16, 0))
	broken(t, "two alike at once", b, update(1, 1, 0, 16), update(1, 35, 0, 16), undo(1, 75, 0, 16, 0))
}

// P22.2, 5 and 6: what may be said in which state.
func TestStates(t *testing.T) {
	b, u := begin(7), update(1, 1, 0, 16)
	states := map[string]struct {
		ahead               []api.Record
		last                int
		closes, ends, opens bool // a commit or an abort, an end, a begin of that Id may be behind it
	}{
		"begun":             {[]api.Record{b}, 1, true, true, false},
		"updated":           {[]api.Record{b, u}, 35, true, false, false},
		"aborting, nothing": {[]api.Record{b, abort(1, 1)}, 35, false, true, false},
		"aborting":          {[]api.Record{b, u, abort(1, 35)}, 75, false, false, false},
		"undone":            {[]api.Record{b, u, undo(1, 35, 0, 16, 0)}, 75, false, true, false},
		"aborted, undone":   {[]api.Record{b, u, abort(1, 35), undo(1, 75, 0, 16, 0)}, 108, false, true, false},
		"one of two undone": {[]api.Record{b, u, update(1, 35, 0, 16), undo(1, 75, 0, 16, 35)}, 115, false, false, false},
		"committed":         {[]api.Record{b, u, commit(1, 35)}, 75, false, true, false},
		"committed at once": {[]api.Record{b, commit(1, 1)}, 35, false, true, false},
		"ended":             {[]api.Record{b, end(1, 1)}, 35, false, false, true},
		"won":               {[]api.Record{b, u, commit(1, 35), end(1, 75)}, 108, false, false, true},
	}
	for what, s := range states {
		for next, c := range map[string]struct {
			r   api.Record
			may bool
		}{
			"commit": {commit(1, s.last), s.closes}, "abort": {abort(1, s.last), s.closes}, "end": {end(1, s.last), s.ends}, "begin": {b, s.opens},
		} {
			all := append(slices.Clone(s.ahead), c.r)
			if c.may {
				right(t, what+", "+next, all...)
			} else {
				broken(t, what+", "+next, all...)
			}
		}
	}
}

// P22.2, 7: the rows are just those that are there, in each field.
func TestCheckpointsRows(t *testing.T) {
	ahead := []api.Record{begin(7), begin(9), update(35, 35, 0, 16), begin(8), abort(109, 109), update(35, 69, 1, 20)} // the last at 176
	rows := []api.Row{row(1, 7, 1, 1, 0), row(35, 9, 1, 176, 176), row(109, 8, 2, 143, 0)}
	right(t, "rows", append(slices.Clone(ahead), checkpoint(rows))...)
	for i := range rows {
		for _, change := range []func(w *api.Row){
			func(w *api.Row) { w.Id = 64 }, func(w *api.Row) { w.State = 3 - w.State }, func(w *api.Row) { w.Last++ },
			func(w *api.Row) { w.Last = 216 }, func(w *api.Row) { w.Next++ }, func(w *api.Row) { w.Next = 69 }, func(w *api.Row) { w.Birth++ },
		} {
			other := slices.Clone(rows)
			change(&other[i])
			broken(t, "another row", append(slices.Clone(ahead), checkpoint(other))...)
		}
		broken(t, "a row less", append(slices.Clone(ahead), checkpoint(slices.Delete(slices.Clone(rows), i, i+1)))...)
	}
	broken(t, "a row more", append(slices.Clone(ahead), checkpoint(append(slices.Clone(rows), row(110, 10, 1, 110, 0))))...)
	broken(t, "no rows", append(slices.Clone(ahead), checkpoint(nil))...)
	broken(t, "a row of none", checkpoint([]api.Row{row(1, 7, 1, 1, 0)}))
	broken(t, "a row that has ended", begin(7), end(1, 1), checkpoint([]api.Row{row(1, 7, 1, 1, 0)}))
	right(t, "none", begin(7), end(1, 1), checkpoint(nil))
	right(t, "twice", checkpoint(nil), checkpoint(nil))
	// None that is there is SCommitted, named or not.
	for _, named := range [][]api.Row{nil, {row(1, 7, 1, 35, 0)}, {row(1, 7, 1, 1, 0)}, {row(1, 7, 2, 35, 0)}} {
		broken(t, "committed", begin(7), commit(1, 1), checkpoint(named))
	}
	broken(t, "committed beside", begin(7), begin(8), commit(35, 35), checkpoint([]api.Row{row(1, 7, 1, 1, 0)}))
	right(t, "committed and ended", begin(7), begin(8), commit(35, 35), end(35, 69), checkpoint([]api.Row{row(1, 7, 1, 1, 0)}))
}

// P22.2, 7: eight rows and sixteen recs are the most.
func TestGreatestCheckpoint(t *testing.T) {
	g := newLong(t, 100)
	var rows []api.Row
	for id := 1; id <= 8; id++ {
		birth := g.add(begin(9 - id))
		rows = append(rows, row(birth, 9-id, 1, birth, 0))
	}
	var dirty []api.Rec
	for page := range 16 {
		dirty = append(dirty, api.Rec{Page: page, Lsn: 116 - page})
	}
	lsn := g.add(checkpoint(rows, dirty...))
	births := []int{}
	for _, w := range rows {
		births = append(births, w.Birth)
	}
	want := Result{Rows: rows, Fresh: births, Redo: 101, Bytes: 8*34 + 387}
	takes(t, "check 0", g.log(), 100, 0, 16, 1, want)
	takes(t, "that check", g.log(), 100, lsn, 16, 1, want)
	refuses(t, "fifteen pages", g.log(), 100, lsn, 15, 1)
}

// P22.2, 7: the dirty pages' numbers and recs.
func TestCheckpointsDirtyPages(t *testing.T) {
	for _, base := range []int{0, 1, 500, 1 << 32, mostBase} {
		at := base + 35
		for pages := 1; pages <= 16; pages++ {
			for page := range 16 {
				log := logged(t, base, begin(7), checkpoint([]api.Row{row(base+1, 7, 1, base+1, 0)}, api.Rec{Page: page, Lsn: at}))
				if page < pages {
					takes(t, "a page", log, base, at, pages, 1, Result{Rows: []api.Row{row(base+1, 7, 1, base+1, 0)}, Fresh: []int{base + 1}, Redo: at, Bytes: 34 + 70})
				} else {
					refuses(t, "a page", log, base, at, pages, 1)
				}
			}
		}
		for _, lsn := range []int{base - 1, base, base + 1, base + 2, at - 1, at, at + 1, at + 2, at + 70, 1, mostLsn} {
			for place := range 3 { // each of three is looked at
				dirty := []api.Rec{{Page: 0, Lsn: at}, {Page: 2, Lsn: at}, {Page: 3, Lsn: at}}
				dirty[place].Lsn = lsn
				log, _, are := logOf(base, begin(7), checkpoint([]api.Row{row(base+1, 7, 1, base+1, 0)}, dirty...))
				if !are { // LSN 0 and below
					continue
				}
				if lsn > base && lsn <= at {
					takes(t, "a rec", log, base, at, 4, 1, Result{Rows: []api.Row{row(base+1, 7, 1, base+1, 0)}, Fresh: []int{base + 1}, Redo: lsn, Bytes: 34 + 88})
				} else {
					refuses(t, "a rec", log, base, at, 4, 1)
				}
			}
		}
	}
}

// P22.2: check is 0, or the LSN of a checkpoint of the beginning.
func TestCheck(t *testing.T) {
	rows := []api.Row{row(1, 7, 1, 1, 0)}
	log := logged(t, 0, begin(7), checkpoint(rows), checkpoint(rows), commit(1, 1), end(1, 157)) // at 1, 35, 96, 157, 190
	for lsn := -3; lsn < 300; lsn++ {
		switch lsn {
		case 0, 35, 96:
			_, e := look.Analyse(log, 0, lsn, 2, 2)
			if e != api.OK {
				t.Errorf("check %d: %d", lsn, e)
			}
		default:
			refuses(t, "check", log, 0, lsn, 2, 2)
		}
	}
	for _, lsn := range ends() {
		refuses(t, "check", log, 0, lsn, 2, 2)
		refuses(t, "check of no byte", nil, 0, lsn, 2, 2)
	}
	// What the beginning has no more is no checkpoint; nor is one that the other LSNs don't reach.
	refuses(t, "cut", log[:94], 0, 35, 2, 2)
	_, e := look.Analyse(log[:95], 0, 35, 2, 2)
	if e != api.OK {
		t.Errorf("the last record: %d", e)
	}
	refuses(t, "another base", log, 34, 35, 2, 2)
	refuses(t, "another base", log, 34, 69, 2, 2)
}

// P22.3: Redo by one of several checkpoints: its own recs, and the first change behind it.
func TestRedo(t *testing.T) {
	for _, base := range []int{0, 7, 1 << 40, mostBase} {
		g := newLong(t, base)
		rec := func(page, lsn int) api.Rec { return api.Rec{Page: page, Lsn: lsn} }
		x := g.add(begin(7))
		first := g.add(checkpoint([]api.Row{row(x, 7, 1, x, 0)}))
		u := g.add(update(x, 0, 0, 16))
		none := g.add(checkpoint([]api.Row{row(x, 7, 1, u, u)}))
		old := g.add(checkpoint([]api.Row{row(x, 7, 1, u, u)}, rec(0, u)))
		v := g.add(update(x, 0, 1, 16))
		late := g.add(checkpoint([]api.Row{row(x, 7, 1, v, v)}, rec(1, v)))
		falls := g.add(checkpoint([]api.Row{row(x, 7, 1, v, v)}, rec(0, v), rec(1, u)))
		rises := g.add(checkpoint([]api.Row{row(x, 7, 1, v, v)}, rec(0, x), rec(1, v)))
		itself := g.add(checkpoint([]api.Row{row(x, 7, 1, v, v)}, rec(1, base+g.bytes+1)))
		a := g.add(abort(x, 0))
		y := g.add(begin(8))
		clean := g.add(checkpoint([]api.Row{row(x, 7, 2, a, v), row(y, 8, 1, y, 0)}))
		c := g.add(undo(x, 0, 1, 16, u))
		last := g.add(checkpoint([]api.Row{row(x, 7, 2, c, u), row(y, 8, 1, y, 0)}))
		g.add(commit(y, 0)) // neither this nor what is behind it is a change
		g.add(end(y, 0))
		g.add(abort(g.add(begin(9)), 0))
		log := g.log()
		for _, k := range []struct{ check, redo int }{
			{0, base + 1}, {first, u}, {none, v}, {old, u}, {late, v}, {falls, u}, {rises, x},
			{itself, itself}, {clean, c}, {last, base + 1 + len(log)},
		} {
			got, e := look.Analyse(log, base, k.check, 2, 2)
			if e != api.OK || got.Redo != k.redo || got.Bytes != len(log) {
				t.Errorf("base %d, check %d: Redo %d, Bytes %d, %d, want %d", base, k.check, got.Redo, got.Bytes, e, k.redo)
			}
		}
	}
}

// many gives a log of eight transactions side by side, two of them won, and what it says.
func many(t *testing.T, base int) (*long, Result) {
	g := newLong(t, base)
	var b []int
	for id := range 8 {
		b = append(b, g.add(begin(64-id)))
	}
	u := map[int]int{} // of each page the last update's LSN
	for _, page := range []int{5, 0, 3, 1, 4, 2, 7} {
		u[page] = g.add(update(b[page], 0, page, 16))
	}
	g.add(update(b[3], 0, 8, 16))
	c4 := g.add(commit(b[4], 0)) // not in the order of their births
	g.add(commit(b[2], 0))
	g.add(abort(b[5], 0))
	v := g.add(update(b[0], 0, 0, 17))
	z3 := g.add(undo(b[3], 0, 8, 16, u[3]))
	g.add(end(b[2], 0))
	z5 := g.add(undo(b[5], 0, 5, 16, 0))
	a6 := g.add(abort(b[6], 0))
	return g, Result{
		Rows: []api.Row{
			row(b[0], 64, 1, v, v), row(b[1], 63, 1, u[1], u[1]), row(b[3], 61, 2, z3, u[3]), row(b[4], 60, 3, c4, 0),
			row(b[5], 59, 2, z5, 0), row(b[6], 58, 2, a6, 0), row(b[7], 57, 1, u[7], u[7]),
		},
		Winners: []int{b[2], b[4]},
		Fresh:   []int{b[0], b[1], b[7]},
		Undo:    []int{v, u[7], u[1], u[3], u[0]},
		Redo:    base + 1,
		Bytes:   g.bytes,
	}
}

// P22.3: lists in their orders, of many transactions, at bases of all sizes.
func TestManyTransactions(t *testing.T) {
	for _, base := range []int{0, 1, 255, 65535, 1<<32 - 1, 1 << 59, mostBase} {
		g, want := many(t, base)
		takes(t, "many", g.log(), base, 0, 9, 2, want)
		refuses(t, "eight pages", g.log(), base, 0, 8, 2)
		for _, other := range []int{base - 1, base + 1, base + 34} {
			if other >= 0 && other <= mostBase {
				takes(t, "another base: no beginning", g.log(), other, 0, 9, 2, Result{Redo: other + 1})
			}
		}
	}
}

// P22.3: what a row says behind each kind of record.
func TestRowsByTheWay(t *testing.T) {
	steps := []struct {
		r    api.Record
		want []api.Row
		undo []int
	}{
		{begin(7), []api.Row{row(1, 7, 1, 1, 0)}, nil},
		{update(1, 1, 0, 16), []api.Row{row(1, 7, 1, 35, 35)}, []int{35}},
		{update(1, 35, 1, 16), []api.Row{row(1, 7, 1, 75, 75)}, []int{75, 35}},
		{begin(8), []api.Row{row(1, 7, 1, 75, 75), row(115, 8, 1, 115, 0)}, []int{75, 35}},
		{abort(1, 75), []api.Row{row(1, 7, 2, 149, 75), row(115, 8, 1, 115, 0)}, []int{75, 35}},
		{undo(1, 149, 1, 16, 35), []api.Row{row(1, 7, 2, 182, 35), row(115, 8, 1, 115, 0)}, []int{35}},
		{commit(115, 115), []api.Row{row(1, 7, 2, 182, 35), row(115, 8, 3, 229, 0)}, []int{35}},
		{undo(1, 182, 0, 16, 0), []api.Row{row(1, 7, 2, 262, 0), row(115, 8, 3, 229, 0)}, nil},
		{end(115, 229), []api.Row{row(1, 7, 2, 262, 0)}, nil},
		{end(1, 262), nil, nil},
	}
	var records []api.Record
	for i, s := range steps {
		records = append(records, s.r)
		got := right(t, "a step", records...)
		if !slices.Equal(got.Rows, s.want) || !slices.Equal(got.Undo, s.undo) {
			t.Errorf("step %d: %+v, want %v, %v", i, got, s.want, s.undo)
		}
	}
}

// P22.3: a commit leaves nothing to be undone, however much was updated.
func TestWinnersHaveNothingLeft(t *testing.T) {
	g := newLong(t, 0)
	x := g.add(begin(7))
	for i := range 100 {
		g.add(update(x, 0, i%2, 16+i%32))
	}
	c := g.add(commit(x, 0))
	told(t, "committed", 0, Result{Rows: []api.Row{row(1, 7, 3, c, 0)}, Winners: []int{1}, Redo: 1}, g.records...)
	g.add(end(x, 0))
	told(t, "ended", 0, Result{Winners: []int{1}, Redo: 1}, g.records...)
}

// won adds a transaction that wins, of 140 bytes, and tells its birth.
func (g *long) won() int {
	x := g.add(begin(7))
	g.add(update(x, 0, 0, 16))
	g.add(commit(x, 0))
	g.add(end(x, 0))
	return x
}

// A log may have more bytes than a log area.
func TestLongLogs(t *testing.T) { // P22.2, P22.3
	g := newLong(t, 5)
	var winners []int
	for g.bytes < 3*65536 {
		winners = append(winners, g.won())
	}
	takes(t, "long", g.log(), 5, 0, 1, 1, Result{Winners: winners, Redo: 6, Bytes: g.bytes})
	g.add(update(winners[0], 0, 0, 16))
	refuses(t, "long", g.log(), 5, 0, 1, 1)
}

// Behind the greatest base LSNs may rise to MaxLsn; a frame with a greater one is not of the beginning.
func TestGreatestLsns(t *testing.T) { // P22.2, P22.3
	g := newLong(t, mostBase)
	var winners []int
	for range 935 {
		winners = append(winners, g.won())
	}
	g.add(end(g.add(begin(9)), 0))
	g.add(checkpoint(nil))
	last := g.add(checkpoint(nil))
	x := g.add(begin(8))
	if c := g.add(commit(x, 0)); c != mostLsn {
		t.Fatalf("the commit is at %d", c)
	}
	log := g.log()
	want := Result{Rows: []api.Row{row(x, 8, 3, mostLsn, 0)}, Winners: append(winners, x), Redo: mostBase + 1, Bytes: len(log)}
	takes(t, "up to the greatest", log, mostBase, 0, 1, 1, want)
	b, _ := record.Bytes(end(x, mostLsn))
	beyond := append(slices.Clone(log), framed(mostLsn+33, b)...)
	takes(t, "no more", beyond, mostBase, 0, 1, 1, want)
	want.Redo = mostLsn + 33
	takes(t, "Redo behind it", log, mostBase, last, 1, 1, want)
}
