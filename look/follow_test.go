package look_test

import (
	"bytes"
	"reflect"
	"slices"
	"testing"

	"tidemark/api"
	"tidemark/chain"
	"tidemark/look"
	"tidemark/record"
	"tidemark/scan"
)

// P22.4: each of a log's first bytes, however many, is taken; it says what its whole frames say.
func TestEachBeginningIsTaken(t *testing.T) {
	for _, base := range []int{0, 300} {
		g, whole := many(t, base)
		log, lines, _ := logOf(base, g.records...)
		size, n := 0, 0 // of the whole frames
		for cut := range len(log) + 1 {
			for n < len(lines) && size+record.Size(lines[n].r)+16 <= cut {
				size += record.Size(lines[n].r) + 16
				n++
			}
			got, e := look.Analyse(log[:cut], base, 0, 9, 2)
			want, _, _ := analyse(lines[:n], base, size, 0, 9, 2)
			if e != api.OK || !reflect.DeepEqual(plainly(got), plainly(want)) {
				t.Fatalf("%d bytes: %+v, %d, want %+v", cut, got, e, want)
			}
			for _, b := range got.Winners {
				if !slices.Contains(whole.Winners, b) {
					t.Fatalf("%d bytes: the winner %d is none of %v", cut, b, whole.Winners)
				}
			}
		}
	}
}

// P22.4: what stands behind the beginning changes nothing, be it right elsewhere or against the rules.
func TestWhatStandsBehind(t *testing.T) {
	rows := []api.Row{row(1, 7, 1, 35, 35)}
	records := []api.Record{begin(7), update(1, 1, 0, 16), checkpoint(rows, api.Rec{Page: 0, Lsn: 35})}
	log := logged(t, 0, records...)
	next := len(log) + 1
	body := func(r api.Record) []byte {
		b, e := record.Bytes(r)
		if e != api.OK {
			t.Fatalf("%v: %d", r, e)
		}
		return b
	}
	wrong := body(end(1, 35)) // an update is left
	good := body(commit(1, 35))
	torn := framed(next, good)
	torn[20] ^= 1
	for i, behind := range [][]byte{
		{0}, make([]byte, 100), bytes.Repeat([]byte{255}, 100), bytes.Repeat([]byte{1}, 40),
		framed(next-1, wrong), framed(next+1, wrong), framed(1, wrong), framed(next, wrong)[:32], framed(next, good)[:32],
		torn, slices.Concat(torn, framed(next+33, wrong)), slices.Concat([]byte{0}, framed(next+1, wrong)),
		framed(next, []byte{1}), slices.Concat(framed(next, []byte{1}), framed(next+17, wrong)), framed(next, append(slices.Clone(wrong), 0)),
		framed(next, body(begin(64))[:17]), log, slices.Concat(log[:30], log),
	} {
		all := slices.Concat(log, behind)
		want := Result{Rows: rows, Fresh: []int{1}, Undo: []int{35}, Redo: 1, Bytes: len(log)}
		takes(t, "check 0", all, 0, 0, 2, 2, want)
		want.Redo = 35
		takes(t, "check 75", all, 0, 75, 2, 2, want)
		refuses(t, "a check behind", all, 0, next, 2, 2)
		if t.Failed() {
			t.Fatalf("behind it number %d", i)
		}
	}
	refuses(t, "a further frame", slices.Concat(log, framed(next, wrong)), 0, 0, 2, 2)
	takes(t, "a further frame", slices.Concat(log, framed(next, good)), 0, 0, 2, 2, Result{
		Rows: []api.Row{row(1, 7, 3, next, 0)}, Winners: []int{1}, Redo: 1, Bytes: len(log) + 33,
	})
}

// P22.4: of a right log that breaks a rule later on all that is ahead of it is taken.
func TestWhatIsAheadOfABrokenRule(t *testing.T) {
	g, _ := many(t, 0)
	g.add(begin(64)) // taken already
	log := g.log()
	for cut := range len(log) {
		if _, e := look.Analyse(log[:cut], 0, 0, 9, 2); e != api.OK {
			t.Fatalf("%d bytes: %d", cut, e)
		}
	}
	refuses(t, "all", log, 0, 0, 9, 2)
	refuses(t, "all, and more", append(log, 0), 0, 0, 9, 2)
}

// follows looks at what P22.4 says of rows, Undo and pages.
func follows(t *testing.T, log []byte, base int, got Result) {
	t.Helper()
	read := func(lsn int) (api.Record, api.Errno) {
		f, e := scan.At(log, base, lsn)
		return f.R, e
	}
	undo := map[int][]int{}
	pages := map[int]int{}
	for _, lsn := range got.Undo {
		r, e := read(lsn)
		if e != api.OK || r.Kind != 2 {
			t.Fatalf("Undo has %d: %v, %d", lsn, r, e)
		}
		undo[r.Birth] = append(undo[r.Birth], lsn)
	}
	for _, w := range got.Rows {
		next := 0
		if w.State != 3 && len(undo[w.Birth]) > 0 {
			next = slices.Max(undo[w.Birth])
		}
		if w.Next != next {
			t.Fatalf("the row %v, of Undo %v", w, undo[w.Birth])
		}
		list, e := chain.Undo(read, w.Next)
		if e != api.OK || !slices.Equal(list, undo[w.Birth]) {
			t.Fatalf("the row %v: chain.Undo %v, %d, want %v", w, list, e, undo[w.Birth])
		}
		back, e := chain.Back(read, w.Last)
		if e != api.OK || back[len(back)-1] != w.Birth {
			t.Fatalf("the row %v: chain.Back %v, %d", w, back, e)
		}
		for _, lsn := range back {
			if r, _ := read(lsn); r.Kind == 2 {
				if b := pages[r.Page]; b != 0 && b != w.Birth {
					t.Fatalf("page %d is updated by %d and %d", r.Page, b, w.Birth)
				}
				pages[r.Page] = w.Birth
			}
		}
		delete(undo, w.Birth)
	}
	if len(undo) > 0 {
		t.Fatalf("Undo has updates of no row: %v", undo)
	}
}

func TestWhatFollows(t *testing.T) { // P22.4
	g, _ := many(t, 77)
	log := g.log()
	for cut := range len(log) + 1 {
		got, e := look.Analyse(log[:cut], 77, 0, 9, 2)
		if e != api.OK {
			t.Fatalf("%d bytes: %d", cut, e)
		}
		follows(t, log[:cut], 77, got)
	}
}

// P22.4: chain has a bound of its own; Undo has all updates beyond it, too.
func TestMoreUpdatesThanAChainTells(t *testing.T) {
	g := newLong(t, 0)
	x := g.add(begin(7))
	var undo []int
	for range 4100 {
		undo = append([]int{g.add(update(x, 0, 0, 16))}, undo...)
	}
	log := g.log()
	takes(t, "4100 updates", log, 0, 0, 1, 1, Result{Rows: []api.Row{row(1, 7, 1, undo[0], undo[0])}, Fresh: []int{1}, Undo: undo, Redo: 1, Bytes: len(log)})
}

// fill turns all of a list, its spare room too.
func fill(list []int) {
	for i := range list[:cap(list)] {
		list[:cap(list)][i] = -9
	}
}

// P22.5: the log stays as it is, its spare room too, and is not kept; lists are new memory, their spare room too.
func TestMemory(t *testing.T) {
	g, want := many(t, 5)
	log := g.log()
	at := g.base + len(log) + 1
	room := append(slices.Clone(log), bytes.Repeat([]byte{77}, 300)...)
	// Behind the log, in its spare room, a frame stands that is none of it.
	b, _ := record.Bytes(begin(40))
	copy(room[len(log):], framed(at, b))
	kept := slices.Clone(room)
	given := room[:len(log)]
	first, e := look.Analyse(given, 5, 0, 9, 2)
	if e != api.OK || !reflect.DeepEqual(plainly(first), want) {
		t.Fatalf("%+v, %d, want %+v", first, e, want)
	}
	if !bytes.Equal(room, kept) {
		t.Error("the log or its spare room has changed")
	}
	clear(room)
	if !reflect.DeepEqual(plainly(first), want) {
		t.Errorf("the log is kept: %+v", first)
	}
	second, _ := look.Analyse(log, 5, 0, 9, 2)
	lists, wanted := [][]int{first.Winners, first.Fresh, first.Undo}, [][]int{want.Winners, want.Fresh, want.Undo}
	for i, list := range lists {
		fill(list)
		for j := i + 1; j < len(lists); j++ {
			if !slices.Equal(lists[j], wanted[j]) {
				t.Errorf("list %d shares memory with list %d", j, i)
			}
		}
	}
	if !slices.Equal(first.Rows, want.Rows) {
		t.Error("Rows share memory with another list")
	}
	for i := range first.Rows[:cap(first.Rows)] {
		first.Rows[:cap(first.Rows)][i] = api.Row{Birth: -9}
	}
	if !reflect.DeepEqual(plainly(second), want) {
		t.Errorf("two answers share memory: %+v", second)
	}
	takes(t, "again", log, 5, 0, 9, 2, want)
}

// A refused call changes nothing either.
func TestMemoryOfRefused(t *testing.T) { // P22.5
	for _, c := range [][4]int{{0, 99, 9, 2}, {0, 0, 3, 2}, {0, 0, 17, 2}, {-1, 0, 9, 2}} {
		g, _ := many(t, 0)
		log := append(g.log(), 1, 2, 3)
		kept := slices.Clone(log)
		refuses(t, "refused", log[:len(log)-3], c[0], c[1], c[2], c[3])
		if !bytes.Equal(log, kept) {
			t.Errorf("%v: the log has changed", c)
		}
	}
}

// Calls at the same time don't meet.
func TestManyCallers(t *testing.T) { // P22.5
	g, want := many(t, 5)
	log := g.log()
	done := make(chan bool)
	for range 8 {
		go func() {
			same := true
			for range 20 {
				got, e := look.Analyse(log, 5, 0, 9, 2)
				same = same && e == api.OK && reflect.DeepEqual(plainly(got), want)
			}
			done <- same
		}()
	}
	for range 8 {
		if !<-done {
			t.Error("another answer")
		}
	}
}
