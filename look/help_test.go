package look_test

import (
	"bytes"
	"encoding/binary"
	"hash/crc32"
	"math"
	"reflect"
	"slices"
	"testing"

	"tidemark/api"
	"tidemark/frame"
	"tidemark/look"
	"tidemark/record"
	"tidemark/scan"
)

// The document's numbers.
const (
	mostLsn  = 1 << 60
	mostBase = 1<<60 - 2*65536
	corrupt  = api.Errno(220)
)

// Result is short for what the tests are full of.
type Result = look.Result

// line is a record of a log, with its LSN.
type line struct {
	lsn int
	r   api.Record
}

// logOf frames records one behind the other; false, if one of them is none.
func logOf(base int, records ...api.Record) ([]byte, []line, bool) {
	var log []byte
	var lines []line
	for _, r := range records {
		b, e := record.Bytes(r)
		f, g := frame.Wrap(base+len(log)+1, b)
		if e != api.OK || g != api.OK {
			return nil, nil, false
		}
		lines = append(lines, line{base + len(log) + 1, r})
		log = append(log, f...)
	}
	return log, lines, true
}

func logged(t *testing.T, base int, records ...api.Record) []byte {
	t.Helper()
	log, _, are := logOf(base, records...)
	if !are {
		t.Fatalf("no records: %v", records)
	}
	return log
}

// beginningOf gives the records of a log's beginning.
func beginningOf(log []byte, base int) []line {
	var lines []line
	for lsn, r := range scan.Each(log, base) {
		lines = append(lines, line{lsn, r})
	}
	return lines
}

// framed lays a frame by hand, with the library's sum; the LSN may be such that no frame has.
func framed(lsn int, body []byte) []byte {
	b := binary.LittleEndian.AppendUint32(nil, uint32(len(body)))
	b = binary.LittleEndian.AppendUint64(b, uint64(lsn))
	b = append(b, body...)
	return binary.LittleEndian.AppendUint32(b, crc32.ChecksumIEEE(b))
}

// begin, update, undo, commit, abort, end and check are records; what an update or an undo lays is one byte: 00 becomes 01.

func begin(id int) api.Record { return api.Record{Kind: 1, Id: id} }

func update(birth, prev, page, from int) api.Record {
	return api.Record{Kind: 2, Birth: birth, Prev: prev, Page: page, From: from, Before: []byte{0}, After: []byte{1}}
}

func undo(birth, prev, page, from, next int) api.Record {
	return api.Record{Kind: 3, Birth: birth, Prev: prev, Page: page, From: from, After: []byte{0}, Next: next}
}

func commit(birth, prev int) api.Record { return api.Record{Kind: 4, Birth: birth, Prev: prev} }

func abort(birth, prev int) api.Record { return api.Record{Kind: 5, Birth: birth, Prev: prev} }

func end(birth, prev int) api.Record { return api.Record{Kind: 6, Birth: birth, Prev: prev} }

func checkpoint(rows []api.Row, dirty ...api.Rec) api.Record {
	return api.Record{Kind: 7, Rows: rows, Dirty: dirty}
}

func row(birth, id, state, last, next int) api.Row {
	return api.Row{Birth: birth, Id: id, State: state, Last: last, Next: next}
}

// wide gives an update of n bytes, all of which part.
func wide(birth, prev, page, from, n int) api.Record {
	return api.Record{Kind: 2, Birth: birth, Prev: prev, Page: page, From: from, Before: make([]byte, n), After: bytes.Repeat([]byte{1}, n)}
}

// long is a log that is being written: each record has its birth's last one as Prev.
type long struct {
	t       *testing.T
	base    int
	bytes   int
	records []api.Record
	last    map[int]int
}

func newLong(t *testing.T, base int) *long { return &long{t: t, base: base, last: map[int]int{}} }

// add appends a record, and tells its LSN.
func (g *long) add(r api.Record) int {
	g.t.Helper()
	lsn := g.base + g.bytes + 1
	if r.Kind > 1 && r.Kind < 7 {
		r.Prev = g.last[r.Birth]
		g.last[r.Birth] = lsn
	}
	if r.Kind == 1 {
		g.last[lsn] = lsn
	}
	n := record.Size(r)
	if n == 0 {
		g.t.Fatalf("no record: %v", r)
	}
	g.bytes += n + 16
	g.records = append(g.records, r)
	return lsn
}

func (g *long) log() []byte {
	g.t.Helper()
	return logged(g.t, g.base, g.records...)
}

// plainly gives a Result whose empty lists are nil.
func plainly(r Result) Result {
	if len(r.Rows) == 0 {
		r.Rows = nil
	}
	for _, l := range []*[]int{&r.Winners, &r.Fresh, &r.Undo} {
		if len(*l) == 0 {
			*l = nil
		}
	}
	return r
}

// takes looks at an OK answer.
func takes(t *testing.T, what string, log []byte, base, check, pages, slots int, want Result) {
	t.Helper()
	got, e := look.Analyse(log, base, check, pages, slots)
	if e != api.OK || !reflect.DeepEqual(plainly(got), plainly(want)) {
		t.Errorf("%s: %+v, %d, want %+v", what, got, e, want)
	}
}

// refuses looks that the answer is ErrCorrupt, and all else zero.
func refuses(t *testing.T, what string, log []byte, base, check, pages, slots int) {
	t.Helper()
	got, e := look.Analyse(log, base, check, pages, slots)
	if e != corrupt || !reflect.DeepEqual(plainly(got), Result{}) {
		t.Errorf("%s: %+v, %d, want ErrCorrupt", what, got, e)
	}
}

// told looks at the answer of the examples' pages, base 0, two pages of two slots; Bytes is the whole log.
func told(t *testing.T, what string, check int, want Result, records ...api.Record) {
	t.Helper()
	log := logged(t, 0, records...)
	want.Bytes = len(log)
	takes(t, what, log, 0, check, 2, 2, want)
}

// broken looks that the last of the records is refused, and those ahead of it are not.
func broken(t *testing.T, what string, records ...api.Record) {
	t.Helper()
	refuses(t, what, logged(t, 0, records...), 0, 0, 2, 2)
	right(t, what+", ahead of it", records[:len(records)-1]...)
}

// right looks that the records are taken.
func right(t *testing.T, what string, records ...api.Record) Result {
	t.Helper()
	got, e := look.Analyse(logged(t, 0, records...), 0, 0, 2, 2)
	if e != api.OK {
		t.Errorf("%s: %d, want OK", what, e)
	}
	return got
}

// history tells the rules a second time: what a row is, it finds anew in all lines that came so far.
type history []line

// own gives the lines of a transaction.
func (h history) own(birth int) history {
	var list history
	for _, x := range h {
		if x.lsn == birth || x.r.Birth == birth {
			list = append(list, x)
		}
	}
	return list
}

func (h history) of(kinds ...int) history {
	var list history
	for _, x := range h {
		if slices.Contains(kinds, x.r.Kind) {
			list = append(list, x)
		}
	}
	return list
}

// left gives the updates that a transaction has left.
func (h history) left(birth int) history {
	own := h.own(birth)
	if len(own.of(4)) > 0 {
		return nil
	}
	made := own.of(2)
	return made[:len(made)-len(own.of(3))]
}

// rows gives the rows that are there.
func (h history) rows() []api.Row {
	var rows []api.Row
	for _, b := range h.of(1) {
		own := h.own(b.lsn)
		if len(own.of(6)) > 0 {
			continue
		}
		w := row(b.lsn, b.r.Id, 1, own[len(own)-1].lsn, 0)
		if len(own.of(3, 5)) > 0 {
			w.State = 2
		}
		if len(own.of(4)) > 0 {
			w.State = 3
		}
		if left := h.left(b.lsn); len(left) > 0 {
			w.Next = left[len(left)-1].lsn
		}
		rows = append(rows, w)
	}
	return rows
}

// broken tells which rule of P22.2 a line breaks behind the others; 0: none.
func (h history) broken(x line, base, pages, slots int) int {
	rows := h.rows()
	switch x.r.Kind {
	case 1:
		if len(rows) >= 8 || slices.ContainsFunc(rows, func(w api.Row) bool { return w.Id == x.r.Id }) {
			return 1
		}
		return 0
	case 7:
		return h.brokenCheck(x, base, pages)
	}
	at := slices.IndexFunc(rows, func(w api.Row) bool { return w.Birth == x.r.Birth })
	if at < 0 || rows[at].Last != x.r.Prev {
		return 2
	}
	state, left := rows[at].State, h.left(x.r.Birth)
	switch x.r.Kind {
	case 2:
		if state != 1 || x.r.Page >= pages || x.r.From+len(x.r.After) > 16+16*slots {
			return 3
		}
		for _, w := range rows {
			for _, u := range h.own(w.Birth).of(2) {
				if w.Birth != x.r.Birth && u.r.Page == x.r.Page {
					return 3
				}
			}
		}
	case 3:
		if state == 3 || len(left) == 0 {
			return 4
		}
		u, next := left[len(left)-1].r, 0
		if len(left) > 1 {
			next = left[len(left)-2].lsn
		}
		if x.r.Page != u.Page || x.r.From != u.From || string(x.r.After) != string(u.Before) || x.r.Next != next {
			return 4
		}
	case 4, 5:
		if state != 1 {
			return 5
		}
	case 6:
		if state != 3 && len(left) > 0 {
			return 6
		}
	}
	return 0
}

func (h history) brokenCheck(x line, base, pages int) int {
	rows := h.rows()
	if slices.ContainsFunc(rows, func(w api.Row) bool { return w.State == 3 }) || len(rows) != len(x.r.Rows) {
		return 7
	}
	for i, w := range rows {
		if x.r.Rows[i] != w {
			return 7
		}
	}
	for _, d := range x.r.Dirty {
		if d.Page >= pages || d.Lsn <= base || d.Lsn > x.lsn {
			return 7
		}
	}
	return 0
}

// analyse tells a second time what Analyse answers of a log with just these lines; rule is the one that is broken, 8 that of check.
func analyse(lines []line, base, size, check, pages, slots int) (want Result, e api.Errno, rule int) {
	for i, x := range lines {
		if n := history(lines[:i]).broken(x, base, pages, slots); n != 0 {
			return Result{}, corrupt, n
		}
	}
	h := history(lines)
	want = Result{Rows: h.rows(), Redo: base + 1, Bytes: size}
	for _, x := range h.of(4) {
		want.Winners = append(want.Winners, x.r.Birth)
	}
	for _, w := range want.Rows {
		if w.State == 1 {
			want.Fresh = append(want.Fresh, w.Birth)
		}
		for _, u := range h.left(w.Birth) {
			want.Undo = append(want.Undo, u.lsn)
		}
	}
	slices.Sort(want.Winners)
	slices.Sort(want.Undo)
	slices.Reverse(want.Undo)
	if check != 0 {
		var is bool
		if want.Redo, is = h.redo(check, base+1+size); !is {
			return Result{}, corrupt, 8
		}
	}
	return want, api.OK, 0
}

// redo tells from where on redo goes by the checkpoint with that LSN.
func (h history) redo(check, next int) (int, bool) {
	least := []int{next}
	found := false
	for _, x := range h {
		if x.lsn == check && x.r.Kind == 7 {
			found = true
			for _, d := range x.r.Dirty {
				least = append(least, d.Lsn)
			}
		}
		if x.lsn > check && (x.r.Kind == 2 || x.r.Kind == 3) {
			least = append(least, x.lsn)
		}
	}
	return slices.Min(least), found
}

// agrees holds Analyse against the second telling, and tells which rule is broken.
func agrees(t *testing.T, log []byte, lines []line, base, check, pages, slots int) int {
	t.Helper()
	want, e, rule := analyse(lines, base, len(log), check, pages, slots)
	if e != api.OK {
		refuses(t, "by the second telling", log, base, check, pages, slots)
	} else {
		takes(t, "by the second telling", log, base, check, pages, slots, want)
	}
	return rule
}

// ends are numbers that no LSN is.
func ends() []int {
	return []int{-1, -35, -75, -mostLsn, mostLsn, mostLsn + 1, math.MaxInt, math.MinInt, math.MinInt + 1}
}
