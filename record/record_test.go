package record_test

import (
	"bytes"
	"encoding/binary"
	"math"
	"math/rand"
	"reflect"
	"slices"
	"testing"

	"tidemark/api"
	"tidemark/record"
)

const mostLsn = 1 << 60

// u8, u16 and u64 lay numbers by hand; of what does not fit the low bytes stay.
func u8(b []byte, n int) []byte  { return append(b, byte(n)) }
func u16(b []byte, n int) []byte { return binary.LittleEndian.AppendUint16(b, uint16(n)) }
func u64(b []byte, n int) []byte { return binary.LittleEndian.AppendUint64(b, uint64(n)) }

// layOf lays a record out by hand, right or not; n is what it says of how many bytes a range has.
func layOf(r api.Record, n int) []byte {
	b := u64(u64(u8(nil, r.Kind), r.Birth), r.Prev)
	switch r.Kind {
	case 1:
		b = u8(b, r.Id)
	case 2:
		b = u16(u16(u8(b, r.Page), r.From), n)
		b = append(append(b, r.Before...), r.After...)
	case 3:
		b = u16(u16(u8(b, r.Page), r.From), n)
		b = u64(append(b, r.After...), r.Next)
	case 7:
		b = u8(b, len(r.Rows))
		for _, w := range r.Rows {
			b = u64(u64(u8(u8(u64(b, w.Birth), w.Id), w.State), w.Last), w.Next)
		}
		b = u8(b, len(r.Dirty))
		for _, d := range r.Dirty {
			b = u64(u8(b, d.Page), d.Lsn)
		}
	}
	return b
}

func lay(r api.Record) []byte { return layOf(r, len(r.After)) }

// same tells whether two records are alike; a list of no item is as none.
func same(a, b api.Record) bool {
	return a.Kind == b.Kind && a.Birth == b.Birth && a.Prev == b.Prev && a.Id == b.Id && a.Page == b.Page && a.From == b.From && a.Next == b.Next &&
		bytes.Equal(a.Before, b.Before) && bytes.Equal(a.After, b.After) && slices.Equal(a.Rows, b.Rows) && slices.Equal(a.Dirty, b.Dirty)
}

// wantRight looks that a record is written as want, has that size, and is read again.
func wantRight(t *testing.T, r api.Record, want []byte) {
	t.Helper()
	if b, e := record.Bytes(r); !bytes.Equal(b, want) || e != api.OK {
		t.Errorf("Bytes(%+v): % x, %d, want % x", r, b, e, want)
	}
	if n := record.Size(r); n != len(want) {
		t.Errorf("Size(%+v): %d, want %d", r, n, len(want))
	}
	if got, e := record.Parse(want); !same(got, r) || e != api.OK {
		t.Errorf("Parse(% x): %+v, %d, want %+v", want, got, e, r)
	}
}

// refuseRecord looks that a record is not written.
func refuseRecord(t *testing.T, r api.Record) {
	t.Helper()
	if b, e := record.Bytes(r); len(b) != 0 || e != api.ErrRecord {
		t.Errorf("Bytes(%+v): % x, %d, want ErrRecord", r, b, e)
	}
	if n := record.Size(r); n != 0 {
		t.Errorf("Size(%+v): %d, want 0", r, n)
	}
}

// refuseBytes looks that bytes are not read.
func refuseBytes(t *testing.T, b []byte) {
	t.Helper()
	if r, e := record.Parse(b); !same(r, api.Record{}) || e != api.ErrRecord {
		t.Errorf("Parse(% x): %+v, %d, want ErrRecord", b, r, e)
	}
}

// refuseBoth looks that neither a record nor its bytes, laid by hand, are taken.
func refuseBoth(t *testing.T, r api.Record) {
	t.Helper()
	refuseRecord(t, r)
	refuseBytes(t, lay(r))
}

func update(page, from int, before, after []byte) api.Record {
	return api.Record{Kind: 2, Birth: 1, Prev: 1, Page: page, From: from, Before: before, After: after}
}

func undo(page, from int, after []byte, next int) api.Record {
	return api.Record{Kind: 3, Birth: 1, Prev: 35, Page: page, From: from, After: after, Next: next}
}

func check(rows []api.Row, dirty []api.Rec) api.Record {
	return api.Record{Kind: 7, Rows: rows, Dirty: dirty}
}

// rowsOf and dirtyOf give so many rows and recs that rise.
func rowsOf(n int) []api.Row {
	var rows []api.Row
	for i := range n {
		rows = append(rows, api.Row{Birth: 1 + 300*i, Id: 64 - i, State: 1 + i%2, Last: 9000 + i, Next: i * 77})
	}
	return rows
}

func dirtyOf(n int) []api.Rec {
	var dirty []api.Rec
	for i := range n {
		dirty = append(dirty, api.Rec{Page: 15 - (n - 1) + i, Lsn: 70000 - i})
	}
	return dirty
}

// unlike gives two lists of n bytes that part in the first byte and in the last, and agree between them.
func unlike(n int) (before, after []byte) {
	before, after = bytes.Repeat([]byte{5}, n), bytes.Repeat([]byte{5}, n)
	before[0], before[n-1], after[0], after[n-1] = 0, 0, 1, 2
	return before, after
}

// some gives right records of all kinds.
func some() []api.Record {
	before, after := unlike(128)
	return []api.Record{
		{Kind: 1, Id: 3},
		update(2, 16, []byte{0}, []byte{1}),
		update(15, 16, before, after),
		undo(2, 16, []byte{0}, 0),
		undo(15, 16, after, 258),
		{Kind: 4, Birth: 1, Prev: 258},
		{Kind: 5, Birth: 0x0102030405060708, Prev: 0x0807060504030201},
		{Kind: 6, Birth: mostLsn, Prev: mostLsn},
		check(nil, nil),
		check(rowsOf(1), nil),
		check(nil, dirtyOf(1)),
		check(rowsOf(8), dirtyOf(16)),
	}
}

// lsns gives LSNs, the edges among them.
func lsns() []int {
	return []int{1, 2, 255, 256, 258, 1<<32 - 1, 1 << 32, 0x0706050403020100, mostLsn - 1, mostLsn}
}

// noLsns gives numbers that are no LSN and not 0 either.
func noLsns() []int {
	return []int{-1, -2, -258, -mostLsn, math.MinInt, mostLsn + 1, mostLsn + 2, 1 << 61, 1 << 62, math.MaxInt}
}

func TestExamples(t *testing.T) { // P9.1, P9.2, P9.3
	zeros := make([]byte, 18)
	wantRight(t, api.Record{Kind: api.KBegin, Id: 3}, append(append([]byte{1}, zeros[:16]...), 3))
	wantRight(t, api.Record{Kind: api.KCommit, Birth: 1, Prev: 258}, []byte{4, 1, 0, 0, 0, 0, 0, 0, 0, 2, 1, 0, 0, 0, 0, 0, 0})
	wantRight(t, api.Record{Kind: api.KUpdate, Birth: 1, Prev: 1, Page: 2, From: 16, Before: []byte{0}, After: []byte{1}},
		[]byte{2, 1, 0, 0, 0, 0, 0, 0, 0, 1, 0, 0, 0, 0, 0, 0, 0, 2, 16, 0, 1, 0, 0, 1})
	wantRight(t, api.Record{Kind: api.KUndo, Birth: 1, Prev: 35, Page: 2, From: 16, After: []byte{0}},
		[]byte{3, 1, 0, 0, 0, 0, 0, 0, 0, 35, 0, 0, 0, 0, 0, 0, 0, 2, 16, 0, 1, 0, 0, 0, 0, 0, 0, 0, 0, 0, 0})
	wantRight(t, api.Record{Kind: api.KCheck}, append([]byte{7}, zeros...))
	wantRight(t, check([]api.Row{{Birth: 1, Id: 3, State: api.SOpen, Last: 1}}, []api.Rec{{Page: 2, Lsn: 35}}),
		slices.Concat([]byte{7}, zeros[:16], []byte{1, 1, 0, 0, 0, 0, 0, 0, 0, 3, 1, 1, 0, 0, 0, 0, 0, 0, 0}, zeros[:8], []byte{1, 2, 35, 0, 0, 0, 0, 0, 0, 0}))
	wantRight(t, update(2, 16, []byte{0, 5, 1}, []byte{1, 5, 2}), lay(update(2, 16, []byte{0, 5, 1}, []byte{1, 5, 2})))
}

func TestAListOfNoItemIsZero(t *testing.T) { // P9.1
	for _, r := range some() {
		want := lay(r)
		if r.Before == nil {
			r.Before = make([]byte, 0, 9)
		}
		if r.After == nil {
			r.After = []byte{}
		}
		if r.Rows == nil {
			r.Rows = []api.Row{}
		}
		if r.Dirty == nil {
			r.Dirty = make([]api.Rec, 0, 3)
		}
		wantRight(t, r, want)
	}
}

func TestSizes(t *testing.T) { // P9.3
	for id := 1; id <= 64; id++ {
		if n := record.Size(api.Record{Kind: api.KBegin, Id: id}); n != 18 {
			t.Errorf("a begin: %d", n)
		}
	}
	for _, kind := range []int{api.KCommit, api.KAbort, api.KEnd} {
		if n := record.Size(api.Record{Kind: kind, Birth: 1, Prev: 1}); n != 17 {
			t.Errorf("kind %d: %d", kind, n)
		}
	}
	for n := 1; n <= 128; n++ {
		before, after := unlike(n)
		if got := record.Size(update(0, 16, before, after)); got != 22+2*n {
			t.Errorf("an update of %d: %d", n, got)
		}
		if got := record.Size(undo(0, 16, after, 0)); got != 30+n {
			t.Errorf("an undo of %d: %d", n, got)
		}
	}
	for rows := range 9 {
		for dirty := range 17 {
			if got := record.Size(check(rowsOf(rows), dirtyOf(dirty))); got != 19+26*rows+9*dirty {
				t.Errorf("a check of %d and %d: %d", rows, dirty, got)
			}
		}
	}
	if n := record.Size(check(rowsOf(8), dirtyOf(16))); n != 371 {
		t.Errorf("the greatest: %d", n)
	}
}

func TestKinds(t *testing.T) { // P9.1, P9.2
	wrong := []int{0, -1, -7, 8, 9, 100, 255, 256, 257, 263, 1 << 32, 1<<32 + 4, math.MinInt, math.MaxInt}
	for _, kind := range wrong {
		for _, r := range some() {
			r.Kind = kind
			refuseRecord(t, r)
		}
		refuseRecord(t, api.Record{Kind: kind})
	}
	for kind := range 256 {
		for _, r := range some() {
			b := lay(r)
			b[0] = byte(kind)
			switch got, e := record.Parse(b); {
			case e == api.OK && (kind < 1 || kind > 7 || got.Kind != kind):
				t.Errorf("Parse(% x): %+v", b, got)
			case kind >= 4 && kind <= 6 && r.Kind >= 4 && r.Kind <= 6:
				r.Kind = kind
				wantRight(t, r, b)
			}
		}
	}
	for n := range 40 {
		refuseBytes(t, make([]byte, n))
		refuseBytes(t, append([]byte{8}, make([]byte, n)...))
		refuseBytes(t, bytes.Repeat([]byte{255}, n))
	}
}

func TestIds(t *testing.T) { // P9.1, P9.2
	for id := -3; id < 600; id++ {
		r := api.Record{Kind: api.KBegin, Id: id}
		if id >= 1 && id <= 64 {
			wantRight(t, r, lay(r))
		} else {
			refuseRecord(t, r)
		}
	}
	for _, id := range []int{0, 65, 66, 128, 255} {
		refuseBoth(t, api.Record{Kind: api.KBegin, Id: id})
	}
	for _, id := range []int{math.MinInt, math.MaxInt, 1<<32 + 3, 1<<8 + 3} {
		refuseRecord(t, api.Record{Kind: api.KBegin, Id: id})
	}
}

func TestBirthAndPrev(t *testing.T) { // P9.1, P9.2
	for _, first := range some() {
		for _, set := range []func(r *api.Record, n int){
			func(r *api.Record, n int) { r.Birth = n },
			func(r *api.Record, n int) { r.Prev = n },
		} {
			of := func(n int) api.Record {
				r := first
				set(&r, n)
				return r
			}
			owned := first.Kind != api.KBegin && first.Kind != api.KCheck
			for _, n := range lsns() {
				if owned {
					wantRight(t, of(n), lay(of(n)))
				} else {
					refuseBoth(t, of(n))
				}
			}
			for _, n := range noLsns() {
				refuseBoth(t, of(n))
			}
			if owned {
				refuseBoth(t, of(0))
			}
		}
	}
}

func TestAllElseIsZero(t *testing.T) { // P9.1
	strange := []struct {
		kinds string // those that have the field
		set   func(r *api.Record)
	}{
		{"23456", func(r *api.Record) { r.Birth = 1 }},
		{"23456", func(r *api.Record) { r.Prev = 1 }},
		{"1", func(r *api.Record) { r.Id = 1 }},
		{"1", func(r *api.Record) { r.Id = -1 }},
		{"23", func(r *api.Record) { r.Page = 1 }},
		{"23", func(r *api.Record) { r.Page = -1 }},
		{"23", func(r *api.Record) { r.From = 16 }},
		{"23", func(r *api.Record) { r.From = 1 }},
		{"2", func(r *api.Record) { r.Before = []byte{0} }},
		{"2", func(r *api.Record) { r.Before = make([]byte, 200) }},
		{"23", func(r *api.Record) { r.After = []byte{1} }},
		{"23", func(r *api.Record) { r.After = []byte{0} }},
		{"3", func(r *api.Record) { r.Next = 1 }},
		{"3", func(r *api.Record) { r.Next = -1 }},
		{"7", func(r *api.Record) { r.Rows = rowsOf(1) }},
		{"7", func(r *api.Record) { r.Rows = []api.Row{{}} }},
		{"7", func(r *api.Record) { r.Dirty = dirtyOf(1) }},
		{"7", func(r *api.Record) { r.Dirty = []api.Rec{{}} }},
	}
	for _, s := range strange {
		for _, r := range some() {
			if bytes.IndexByte([]byte(s.kinds), byte('0'+r.Kind)) < 0 {
				s.set(&r)
				refuseRecord(t, r)
			}
		}
	}
}

func TestPages(t *testing.T) { // P9.1, P9.2
	for page := range 256 {
		for _, r := range []api.Record{update(page, 16, []byte{0}, []byte{1}), undo(page, 16, []byte{0}, 0), check(nil, []api.Rec{{Page: page, Lsn: 1}})} {
			if page < 16 {
				wantRight(t, r, lay(r))
			} else {
				refuseBoth(t, r)
			}
		}
	}
	for _, page := range []int{-1, -16, 256, 258, 1 << 32, math.MinInt, math.MaxInt} {
		refuseRecord(t, update(page, 16, []byte{0}, []byte{1}))
		refuseRecord(t, undo(page, 16, []byte{0}, 0))
		refuseRecord(t, check(nil, []api.Rec{{Page: page, Lsn: 1}}))
	}
}

func TestRanges(t *testing.T) { // P9.1, P9.2
	for n := 1; n < 140; n++ {
		before, after := unlike(n)
		for from := range 160 {
			for _, r := range []api.Record{update(3, from, before, after), undo(3, from, after, 1)} {
				if from >= 16 && from+n <= 144 {
					wantRight(t, r, lay(r))
				} else {
					refuseBoth(t, r)
				}
			}
		}
	}
	for _, n := range []int{1, 2, 127, 128, 129, 65535, 65536, 65537, 65536 + 128} {
		before, after := unlike(n)
		for _, from := range []int{144, 255, 256, 272, 32768, 65535} {
			refuseBoth(t, update(3, from, before, after))
			refuseBoth(t, undo(3, from, after, 1))
		}
		for _, from := range []int{math.MinInt, -65520, -128, -1, 65536, 65552, 1<<32 + 16, math.MaxInt - 128, math.MaxInt - 1, math.MaxInt} { // these don't fit in the two bytes
			refuseRecord(t, update(3, from, before, after))
			refuseRecord(t, undo(3, from, after, 1))
		}
	}
}

func TestEmptyRanges(t *testing.T) { // P9.1, P9.2
	for _, from := range []int{0, 16, 17, 143, 144} {
		refuseBoth(t, update(2, from, nil, nil))
		refuseBoth(t, update(2, from, []byte{}, []byte{}))
		refuseBoth(t, undo(2, from, nil, 0))
		refuseBoth(t, undo(2, from, []byte{}, 9))
	}
}

func TestUnlikeLengths(t *testing.T) { // P9.1, P9.2
	for n := range 20 {
		for m := range 20 {
			before, after := bytes.Repeat([]byte{1}, n), bytes.Repeat([]byte{2}, m)
			r := update(2, 16, before, after)
			if n == m && n > 0 {
				wantRight(t, r, lay(r))
			} else {
				refuseBoth(t, r)
			}
		}
	}
}

func TestWhereBeforeAndAfterPart(t *testing.T) { // P9.1, P9.2
	refuseBoth(t, update(2, 16, []byte{1}, []byte{1}))
	refuseBoth(t, update(2, 16, []byte{0, 5, 1}, []byte{1, 5, 1}))
	refuseBoth(t, update(2, 16, []byte{0, 5, 1}, []byte{0, 5, 2}))
	for n := 1; n <= 128; n++ {
		before, after := unlike(n)
		wantRight(t, update(2, 16, before, after), lay(update(2, 16, before, after)))
		for i := range n { // all parts but the byte i
			most, other := bytes.Repeat([]byte{1}, n), bytes.Repeat([]byte{2}, n)
			most[i] = 2
			r := update(2, 16, most, other)
			if i == 0 || i == n-1 {
				refuseBoth(t, r)
			} else {
				wantRight(t, r, lay(r))
			}
		}
	}
	for x := range 256 {
		for _, y := range []int{0, 1, 127, 128, 255} {
			r := update(2, 16, []byte{byte(x)}, []byte{byte(y)})
			if x != y {
				wantRight(t, r, lay(r))
			} else {
				refuseBoth(t, r)
			}
			u := undo(2, 16, []byte{byte(x), byte(y)}, x)
			wantRight(t, u, lay(u))
		}
	}
}

func TestLengthsThatLie(t *testing.T) { // P9.2
	for n := 1; n < 30; n++ {
		before, after := unlike(n)
		for said := range 70 {
			if said == n {
				continue
			}
			refuseBytes(t, layOf(update(2, 16, before, after), said))
			refuseBytes(t, layOf(undo(2, 16, after, 5), said))
		}
		for _, said := range []int{255, 256, 256 + n, 32768, 65535} {
			refuseBytes(t, layOf(update(2, 16, before, after), said))
			refuseBytes(t, layOf(undo(2, 16, after, 5), said))
		}
	}
}

func TestNext(t *testing.T) { // P9.1, P9.2
	for _, n := range append(lsns(), 0) {
		u := undo(2, 16, []byte{7}, n)
		wantRight(t, u, lay(u))
		rows := rowsOf(2)
		rows[1].Next = n
		wantRight(t, check(rows, nil), lay(check(rows, nil)))
	}
	for _, n := range noLsns() {
		refuseBoth(t, undo(2, 16, []byte{7}, n))
		for i := range 2 {
			rows := rowsOf(2)
			rows[i].Next = n
			refuseBoth(t, check(rows, nil))
		}
	}
}

// refuseRow looks that a row is refused alone, as the first and as the last.
func refuseRow(t *testing.T, w api.Row) {
	t.Helper()
	ahead := api.Row{Birth: 1, Id: 1, State: 1, Last: 1}
	behind := api.Row{Birth: mostLsn, Id: 1, State: 1, Last: 1}
	for _, rows := range [][]api.Row{{w}, {ahead, w}, {w, behind}} {
		refuseBoth(t, check(rows, nil))
		refuseBoth(t, check(rows, dirtyOf(3)))
	}
}

func TestRows(t *testing.T) { // P9.1, P9.2
	right := api.Row{Birth: 50, Id: 3, State: api.SOpen, Last: 70, Next: 60}
	of := func(set func(w *api.Row)) api.Row {
		w := right
		set(&w)
		return w
	}
	var good []api.Row
	for _, n := range lsns() {
		good = append(good, of(func(w *api.Row) { w.Birth = n }), of(func(w *api.Row) { w.Last = n }))
	}
	good = append(good, right, of(func(w *api.Row) { w.State = api.SAborting }), of(func(w *api.Row) { w.Id = 1 }), of(func(w *api.Row) { w.Id = 64 }))
	for _, w := range good {
		wantRight(t, check([]api.Row{w}, dirtyOf(2)), lay(check([]api.Row{w}, dirtyOf(2))))
	}
	for _, n := range append(noLsns(), 0) {
		refuseRow(t, of(func(w *api.Row) { w.Birth = n }))
		refuseRow(t, of(func(w *api.Row) { w.Last = n }))
	}
	for _, n := range []int{0, 65, 128, 255} {
		refuseRow(t, of(func(w *api.Row) { w.Id = n }))
	}
	for _, n := range []int{0, api.SCommitted, 4, 128, 255} {
		refuseRow(t, of(func(w *api.Row) { w.State = n }))
	}
	for _, n := range []int{-1, 256, 257, 258, math.MinInt, math.MaxInt} { // numbers that do not fit in the byte
		refuseRecord(t, check([]api.Row{of(func(w *api.Row) { w.Id = n })}, nil))
		refuseRecord(t, check([]api.Row{of(func(w *api.Row) { w.State = n })}, nil))
	}
	refuseRow(t, api.Row{})
}

func TestRecs(t *testing.T) { // P9.1, P9.2
	for _, n := range lsns() {
		r := check(nil, []api.Rec{{Page: 0, Lsn: n}, {Page: 9, Lsn: 1}, {Page: 15, Lsn: n}})
		wantRight(t, r, lay(r))
	}
	for _, n := range append(noLsns(), 0) {
		refuseBoth(t, check(nil, []api.Rec{{Page: 2, Lsn: n}}))
		refuseBoth(t, check(nil, []api.Rec{{Page: 2, Lsn: 9}, {Page: 3, Lsn: n}}))
		refuseBoth(t, check(rowsOf(2), []api.Rec{{Page: 2, Lsn: n}, {Page: 3, Lsn: 9}}))
	}
}

func TestHowMany(t *testing.T) { // P9.1, P9.2
	for n := range 20 {
		rows, dirty := rowsOf(n), make([]api.Rec, n)
		for i := range rows {
			rows[i].Id, dirty[i] = 1, api.Rec{Page: i, Lsn: 1}
		}
		if n <= 8 {
			wantRight(t, check(rows, nil), lay(check(rows, nil)))
		} else {
			refuseBoth(t, check(rows, nil))
		}
		if n <= 16 {
			wantRight(t, check(nil, dirty), lay(check(nil, dirty)))
		} else {
			refuseBoth(t, check(nil, dirty))
		}
	}
	many := make([]api.Row, 300) // 300 and 256 do not fit in the byte that says how many
	for i := range many {
		many[i] = api.Row{Birth: i + 1, Id: 1, State: 1, Last: 1}
	}
	for _, n := range []int{9, 255, 256, 257, 264, 300} {
		refuseBoth(t, check(many[:n], nil))
	}
	refuseBoth(t, check(nil, make([]api.Rec, 256)))
	same := make([]api.Rec, 17) // seventeen recs that rise are more than there are pages: here two are of one page
	for i := range same {
		same[i] = api.Rec{Page: min(i, 15), Lsn: 1}
	}
	refuseBoth(t, check(nil, same))
}

func TestRising(t *testing.T) { // P9.1, P9.2
	for n := 2; n <= 8; n++ {
		for i := 1; i < n; i++ {
			rows := rowsOf(n)
			rows[i].Birth = rows[i-1].Birth
			refuseBoth(t, check(rows, nil))
			rows[i].Birth = rows[i-1].Birth - 1
			refuseBoth(t, check(rows, dirtyOf(2)))
			rows[i].Birth = rows[i-1].Birth + 1
			wantRight(t, check(rows, nil), lay(check(rows, nil)))
		}
	}
	for n := 2; n <= 8; n++ {
		for i := 1; i < n; i++ {
			dirty := make([]api.Rec, n)
			for k := range dirty {
				dirty[k] = api.Rec{Page: 2 * k, Lsn: 100 - k}
			}
			dirty[i].Page = dirty[i-1].Page
			refuseBoth(t, check(nil, dirty))
			dirty[i].Page--
			refuseRecord(t, check(rowsOf(2), dirty))
			dirty[i].Page += 2
			wantRight(t, check(nil, dirty), lay(check(nil, dirty)))
		}
	}
	alike := rowsOf(2) // of all numbers but the births it is not asked whether they rise or are there twice
	alike[1] = alike[0]
	alike[1].Birth++
	wantRight(t, check(alike, []api.Rec{{Page: 0, Lsn: 5}, {Page: 1, Lsn: 5}}), lay(check(alike, []api.Rec{{Page: 0, Lsn: 5}, {Page: 1, Lsn: 5}})))
}

func TestCountsThatLie(t *testing.T) { // P9.2
	for rows := range 9 {
		for dirty := range 5 {
			b := lay(check(rowsOf(rows), dirtyOf(dirty)))
			for _, at := range []int{17, 18 + 26*rows} {
				for said := range 256 {
					lie := bytes.Clone(b)
					lie[at] = byte(said)
					if !bytes.Equal(lie, b) {
						refuseUnlessOneForm(t, lie)
					}
				}
			}
			more := append(bytes.Clone(b), make([]byte, 26)...)
			more[17]++
			refuseUnlessOneForm(t, more)
		}
	}
}

// refuseUnlessOneForm looks that what Parse takes is just what is laid of it by hand, and that it is right; else that it is refused whole.
func refuseUnlessOneForm(t *testing.T, b []byte) bool {
	t.Helper()
	r, e := record.Parse(b)
	if e != api.OK {
		refuseBytes(t, b)
		return false
	}
	if !mayBe(r) || !bytes.Equal(lay(r), b) {
		t.Errorf("Parse(% x): %+v", b, r)
	}
	wantRight(t, r, b)
	return true
}

func TestShorterAndLonger(t *testing.T) { // P9.5
	for _, r := range some() {
		b, e := record.Bytes(r)
		if e != api.OK {
			t.Fatalf("Bytes(%+v): %d", r, e)
		}
		for n := range b {
			refuseBytes(t, b[:n]) // what is cut off stands in the spare room, which is no part of the bytes
			refuseBytes(t, bytes.Clone(b[:n]))
		}
		for x := range 256 {
			refuseBytes(t, append(bytes.Clone(b), byte(x)))
		}
		refuseBytes(t, append(bytes.Clone(b), b...))
		refuseBytes(t, append(bytes.Clone(b), make([]byte, 70000)...))
	}
}

func TestBackAndForth(t *testing.T) { // P9.5
	for _, r := range some() {
		b, _ := record.Bytes(r)
		got, e := record.Parse(b)
		if e != api.OK || !same(got, r) {
			t.Errorf("Parse(Bytes(%+v)): %+v, %d", r, got, e)
		}
		again, e := record.Bytes(got)
		if e != api.OK || !bytes.Equal(again, b) {
			t.Errorf("Bytes(Parse(% x)): % x, %d", b, again, e)
		}
	}
}

func TestTurnedBytes(t *testing.T) { // P9.2, P9.5
	taken := 0
	for _, r := range some() {
		b := lay(r)
		for i := range b {
			for turn := 1; turn < 256; turn++ {
				turned := bytes.Clone(b)
				turned[i] ^= byte(turn)
				if refuseUnlessOneForm(t, turned) {
					taken++
				}
			}
		}
	}
	if taken < 1000 {
		t.Errorf("only %d taken", taken)
	}
}

// mayBe says anew, field by field, whether a record is right.
func mayBe(r api.Record) bool {
	lsn := func(n int) bool { return 0 < n && n <= 1<<60 }
	rest := r
	rest.Kind = 0
	ok := true
	if r.Kind == 1 {
		ok = 0 < r.Id && r.Id < 65
		rest.Id = 0
	} else if r.Kind >= 2 && r.Kind <= 6 {
		ok = lsn(r.Birth) && lsn(r.Prev)
		rest.Birth, rest.Prev = 0, 0
	} else if r.Kind != 7 {
		return false
	}
	if r.Kind == 2 || r.Kind == 3 {
		n := len(r.After)
		ok = ok && 0 <= r.Page && r.Page < 16 && n > 0 && n <= 128 && 16 <= r.From && r.From < 144 && r.From+n <= 144
		rest.Page, rest.From, rest.After = 0, 0, nil
	}
	if r.Kind == 2 {
		ok = ok && len(r.Before) == len(r.After) && !bytes.HasPrefix(r.Before, r.After[:1]) && !bytes.HasSuffix(r.Before, r.After[len(r.After)-1:])
		rest.Before = nil
	}
	if r.Kind == 3 {
		ok = ok && (r.Next == 0 || lsn(r.Next))
		rest.Next = 0
	}
	if r.Kind == 7 {
		ok = len(r.Rows) <= 8 && len(r.Dirty) <= 16
		for i, w := range r.Rows {
			ok = ok && lsn(w.Birth) && w.Id >= 1 && w.Id <= 64 && (w.State == 1 || w.State == 2) && lsn(w.Last) && (w.Next == 0 || lsn(w.Next))
			ok = ok && (i == 0 || r.Rows[i-1].Birth < w.Birth)
		}
		for i, d := range r.Dirty {
			ok = ok && d.Page >= 0 && d.Page <= 15 && lsn(d.Lsn) && (i == 0 || r.Dirty[i-1].Page < d.Page)
		}
		rest.Rows, rest.Dirty = nil, nil
	}
	return ok && same(rest, api.Record{})
}

// anyOf gives one of the numbers, mostly one of the first.
func anyOf(random *rand.Rand, first int, others ...int) int {
	if random.Intn(12) > 0 {
		return first
	}
	return others[random.Intn(len(others))]
}

// randomRecord gives records that are mostly right, some with a number or a list that may not be.
func randomRecord(random *rand.Rand) api.Record {
	lsn := func() int {
		return anyOf(random, 1+random.Intn(500), 1, mostLsn, mostLsn+1, 0, -1, math.MaxInt, math.MinInt)
	}
	list := func(n int) []byte {
		b := make([]byte, n)
		for i := range b {
			b[i] = byte(random.Intn(5))
		}
		return b
	}
	r := api.Record{Kind: anyOf(random, 1+random.Intn(7), 0, 8, -1, 257)}
	if r.Kind > 1 && r.Kind < 7 || random.Intn(30) == 0 {
		r.Birth, r.Prev = lsn(), lsn()
	}
	if r.Kind == 1 || random.Intn(60) == 0 {
		r.Id = anyOf(random, 1+random.Intn(64), 0, 64, 65, -1, 256)
	}
	if r.Kind == 2 || r.Kind == 3 || random.Intn(60) == 0 {
		n := anyOf(random, 1+random.Intn(9), 0, 128, 129)
		r.Page, r.From = anyOf(random, random.Intn(16), -1, 16, 17, 256), anyOf(random, 16+random.Intn(120), 15, 16, 143, 144, 0, -1, math.MaxInt)
		r.After = list(n)
		if r.Kind == 2 {
			r.Before = list(anyOf(random, n, 0, n+1))
		}
	}
	if r.Kind == 3 && random.Intn(2) == 0 || random.Intn(60) == 0 {
		r.Next = lsn()
	}
	if r.Kind == 7 || random.Intn(60) == 0 {
		randomCheck(random, &r, lsn)
	}
	return r
}

func randomCheck(random *rand.Rand, r *api.Record, lsn func() int) {
	birth, page := 0, -1
	for range anyOf(random, random.Intn(4), 8, 9) {
		birth += anyOf(random, 1+random.Intn(300), 0, 1, -1)
		w := api.Row{Birth: birth, Id: 1 + random.Intn(64), State: 1 + random.Intn(2), Last: 1 + random.Intn(500)}
		if random.Intn(20) == 0 {
			w = api.Row{Birth: birth, Id: anyOf(random, 3, 0, 65), State: anyOf(random, 1, 0, 3), Last: lsn(), Next: lsn()}
		}
		r.Rows = append(r.Rows, w)
	}
	for range anyOf(random, random.Intn(4), 16, 17) {
		page += anyOf(random, 1, 0, 2, -1, 16)
		r.Dirty = append(r.Dirty, api.Rec{Page: page, Lsn: anyOf(random, 1+random.Intn(500), lsn())})
	}
}

func TestRandomRecords(t *testing.T) { // P9.1, P9.2, P9.3, P9.5
	random := rand.New(rand.NewSource(9))
	rights, wrongs := map[int]int{}, 0
	for range 60000 {
		r := randomRecord(random)
		if mayBe(r) {
			wantRight(t, r, lay(r))
			rights[r.Kind]++
		} else {
			refuseRecord(t, r)
			wrongs++
		}
	}
	for kind := 1; kind <= 7; kind++ {
		if rights[kind] < 1000 {
			t.Errorf("only %d of kind %d are right", rights[kind], kind)
		}
	}
	if wrongs < 5000 {
		t.Errorf("only %d are wrong", wrongs)
	}
}

func TestRandomBytes(t *testing.T) { // P9.2, P9.5
	random := rand.New(rand.NewSource(99))
	taken, refused := 0, 0
	for range 60000 {
		b := lay(randomRecord(random))
		for range random.Intn(3) {
			b[random.Intn(len(b))] = byte(random.Intn(4))
		}
		if random.Intn(5) == 0 {
			b = b[:random.Intn(len(b)+1)]
		}
		if random.Intn(5) == 0 {
			b = append(b, make([]byte, random.Intn(3))...)
		}
		if refuseUnlessOneForm(t, b) {
			taken++
		} else {
			refused++
		}
	}
	if taken < 5000 || refused < 5000 {
		t.Errorf("%d taken, %d refused: the run does not try both", taken, refused)
	}
}

// marked gives a copy with marks in the room behind it, which whole must find again.
func marked[T any](list []T, mark T) []T {
	return append(slices.Clone(list), slices.Repeat([]T{mark}, 24)...)[:len(list)]
}

func whole[T comparable](t *testing.T, list, want []T, mark T) {
	t.Helper()
	if !slices.Equal(list, want) || !slices.Equal(list[len(list):cap(list)][:24], slices.Repeat([]T{mark}, 24)) {
		t.Errorf("what was handed in was changed: %v", list[:cap(list)])
	}
}

// scribble writes over a list and its spare room.
func scribble[T any](list []T, mark T) {
	list = list[:cap(list)]
	for i := range list {
		list[i] = mark
	}
}

func TestBytesAnswersNewMemory(t *testing.T) { // P9.4
	rowMark, recMark := api.Row{Birth: 7, Id: 7, State: 7, Last: 7, Next: 7}, api.Rec{Page: 7, Lsn: 7}
	for _, r := range some() {
		g := r
		g.Before, g.After, g.Rows, g.Dirty = marked(r.Before, 0xa5), marked(r.After, 0xa5), marked(r.Rows, rowMark), marked(r.Dirty, recMark)
		unharmed := func() {
			t.Helper()
			whole(t, g.Before, r.Before, 0xa5)
			whole(t, g.After, r.After, 0xa5)
			whole(t, g.Rows, r.Rows, rowMark)
			whole(t, g.Dirty, r.Dirty, recMark)
		}
		first, _ := record.Bytes(g)
		second, _ := record.Bytes(g)
		record.Size(g)
		unharmed()
		scribble(first, 0xee)
		unharmed()
		scribble(g.Before, 0xee)
		scribble(g.After, 0xee)
		scribble(g.Rows, api.Row{})
		scribble(g.Dirty, api.Rec{})
		if !bytes.Equal(second, lay(r)) {
			t.Errorf("what was answered was changed: % x", second)
		}
	}
}

func TestParseAnswersNewMemory(t *testing.T) { // P9.4
	for _, r := range some() {
		b := lay(r)
		given := marked(b, 0xa5)
		first, _ := record.Parse(given)
		second, _ := record.Parse(given)
		record.Parse(given[:len(b)-1])
		whole(t, given[:len(b)], b, 0xa5)
		scribble(first.Before, 0xee)
		if !bytes.Equal(first.After, r.After) {
			t.Errorf("Before and After share memory: % x", first.After)
		}
		scribble(first.After, 0xee)
		scribble(first.Rows, api.Row{})
		scribble(first.Dirty, api.Rec{})
		whole(t, given, b, 0xa5)
		third, _ := record.Parse(given)
		scribble(given, 0xee)
		for _, got := range []api.Record{second, third} {
			if !same(got, r) {
				t.Errorf("what was answered was changed: %+v, want %+v", got, r)
			}
		}
		other, _ := record.Parse(b)
		scribble(other.After, 0xee)
		if !bytes.Equal(other.Before, r.Before) {
			t.Errorf("After and Before share memory: % x", other.Before)
		}
	}
}

func TestNothingIsKept(t *testing.T) { // P9.4
	for _, r := range some() {
		want := lay(r)
		for _, other := range some() {
			record.Bytes(other)
			record.Parse(lay(other))
			record.Parse([]byte{2, 1})
			wantRight(t, r, want)
		}
	}
}

func TestTheZeroRecordBesideAnError(t *testing.T) { // P9.2
	before, after := unlike(4)
	rising := check(rowsOf(2), dirtyOf(2))
	rising.Dirty[1].Page = rising.Dirty[0].Page // found only when all has been taken
	for _, b := range [][]byte{lay(update(16, 16, before, after)), lay(undo(2, 141, after, 5)), lay(rising), append(lay(check(rowsOf(2), dirtyOf(2))), 0), lay(api.Record{Kind: 1, Id: 65})} {
		if r, e := record.Parse(b); e != api.ErrRecord || !reflect.DeepEqual(r, api.Record{}) {
			t.Errorf("Parse(% x): %+v, %d", b, r, e)
		}
	}
}
