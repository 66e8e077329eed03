package scan_test

import (
	"bytes"
	"encoding/binary"
	"hash/crc32"
	"iter"
	"math"
	"math/rand"
	"reflect"
	"slices"
	"testing"

	"tidemark/api"
	"tidemark/frame"
	"tidemark/record"
	"tidemark/scan"
)

const mostLsn = 1 << 60

// u8, u16 and u64 lay numbers by hand.
func u8(b []byte, n int) []byte  { return append(b, byte(n)) }
func u16(b []byte, n int) []byte { return binary.LittleEndian.AppendUint16(b, uint16(n)) }
func u64(b []byte, n int) []byte { return binary.LittleEndian.AppendUint64(b, uint64(n)) }

// body lays a record out by hand, right or not.
func body(r api.Record) []byte {
	b := u64(u64(u8(nil, r.Kind), r.Birth), r.Prev)
	switch r.Kind {
	case 1:
		b = u8(b, r.Id)
	case 2:
		b = u16(u16(u8(b, r.Page), r.From), len(r.After))
		b = append(append(b, r.Before...), r.After...)
	case 3:
		b = u16(u16(u8(b, r.Page), r.From), len(r.After))
		b = u64(append(b, r.After...), r.Next)
	case 7:
		b = u8(b, len(r.Rows))
		for _, w := range r.Rows {
			b = u64(u64(u8(u8(u64(b, w.Birth), w.Id), w.State), w.Last), w.Next)
		}
		b = u8(b, len(r.Dirty))
		for _, d := range r.Dirty {
			b = u64(u8(b, d.Page), d.Lsn)
		}
	}
	return b
}

// framed lays a frame out by hand, with the library's sum; the LSN may be such that no frame has.
func framed(lsn int, body []byte) []byte {
	b := binary.LittleEndian.AppendUint32(nil, uint32(len(body)))
	b = append(u64(b, lsn), body...)
	return binary.LittleEndian.AppendUint32(b, crc32.ChecksumIEEE(b))
}

// logOf lays records' frames one behind the other, and tells what a scan must find.
func logOf(base int, records ...api.Record) ([]byte, []scan.Found) {
	var log []byte
	var want []scan.Found
	for _, r := range records {
		f := framed(base+len(log)+1, body(r))
		want = append(want, scan.Found{Lsn: base + len(log) + 1, Size: len(f), R: r})
		log = append(log, f...)
	}
	return log, want
}

func total(found []scan.Found) int {
	n := 0
	for _, f := range found {
		n += f.Size
	}
	return n
}

var begin, commit = api.Record{Kind: 1, Id: 3}, api.Record{Kind: 4, Birth: 1, Prev: 1}

// some gives right records of all kinds, the shortest and the longest among them.
func some() []api.Record {
	before, after := bytes.Repeat([]byte{5}, 128), bytes.Repeat([]byte{5}, 128)
	before[0], before[127], after[0], after[127] = 0, 0, 1, 2
	var rows []api.Row
	for i := range 8 {
		rows = append(rows, api.Row{Birth: 1 + 300*i, Id: 64 - i, State: 1 + i%2, Last: 9000 + i, Next: i * 77})
	}
	var dirty []api.Rec
	for i := range 16 {
		dirty = append(dirty, api.Rec{Page: i, Lsn: 70000 - i})
	}
	return []api.Record{
		begin,
		{Kind: 2, Birth: 1, Prev: 1, Page: 2, From: 16, Before: []byte{0}, After: []byte{1}},
		{Kind: 2, Birth: 1, Prev: 35, Page: 15, From: 16, Before: before, After: after},
		{Kind: 1, Id: 64},
		{Kind: 7},
		{Kind: 3, Birth: 1, Prev: 75, Page: 2, From: 143, After: []byte{9}, Next: 35},
		{Kind: 5, Birth: 1, Prev: mostLsn},
		{Kind: 7, Rows: rows, Dirty: dirty},
		{Kind: 3, Birth: 1, Prev: 75, Page: 0, From: 16, After: after},
		{Kind: 6, Birth: mostLsn, Prev: 1},
		commit,
	}
}

// bases gives bases that a log may have, with room for some bytes below MaxLsn.
func bases() []int {
	return []int{0, 1, 5, 254, 255, 256, 65535, 1<<32 - 2, 1<<32 - 1, 1 << 32, 1 << 59, mostLsn - 100000}
}

// noBases gives bases with which the beginning is empty.
func noBases() []int {
	return []int{-1, -2, -34, -68, -mostLsn, math.MinInt, math.MinInt + 1, mostLsn + 1, mostLsn + 2, 1 << 61, 1 << 62, math.MaxInt - 34, math.MaxInt - 1, math.MaxInt}
}

// same tells whether two records are alike; a list of no item is as none.
func same(a, b api.Record) bool {
	return a.Kind == b.Kind && a.Birth == b.Birth && a.Prev == b.Prev && a.Id == b.Id && a.Page == b.Page && a.From == b.From && a.Next == b.Next &&
		bytes.Equal(a.Before, b.Before) && bytes.Equal(a.After, b.After) && slices.Equal(a.Rows, b.Rows) && slices.Equal(a.Dirty, b.Dirty)
}

func sameFound(a, b scan.Found) bool { return a.Lsn == b.Lsn && a.Size == b.Size && same(a.R, b.R) }

func wantAll(t *testing.T, log []byte, base int, want []scan.Found) {
	t.Helper()
	got, n := scan.All(log, base)
	if !slices.EqualFunc(got, want, sameFound) || n != total(want) {
		t.Errorf("All(%d bytes, %d): %+v, %d, want %+v, %d", len(log), base, got, n, want, total(want))
	}
}

// wantWalk looks that an iterator hands out just these.
func wantWalk(t *testing.T, each iter.Seq2[int, api.Record], want []scan.Found) {
	t.Helper()
	k := 0
	for lsn, r := range each {
		if k >= len(want) || lsn != want[k].Lsn || !same(r, want[k].R) {
			t.Errorf("the record number %d: %d, %+v, want one of %+v", k, lsn, r, want)
			return
		}
		k++
	}
	if k != len(want) {
		t.Errorf("%d records, want %d", k, len(want))
	}
}

func wantEach(t *testing.T, log []byte, base int, want []scan.Found) {
	t.Helper()
	each := scan.Each(log, base)
	if each == nil {
		t.Fatalf("Each(%d bytes, %d) is nil", len(log), base)
	}
	wantWalk(t, each, want)
}

func wantAt(t *testing.T, log []byte, base, lsn int, want []scan.Found) {
	t.Helper()
	found, e := scan.At(log, base, lsn)
	i := slices.IndexFunc(want, func(f scan.Found) bool { return f.Lsn == lsn })
	if i >= 0 && (!sameFound(found, want[i]) || e != api.OK) {
		t.Errorf("At(%d bytes, %d, %d): %+v, %d, want %+v", len(log), base, lsn, found, e, want[i])
	}
	if i < 0 && (!reflect.DeepEqual(found, scan.Found{}) || e != api.ErrLsn) {
		t.Errorf("At(%d bytes, %d, %d): %+v, %d, want ErrLsn", len(log), base, lsn, found, e)
	}
}

// wantFound looks that all three calls find just these.
func wantFound(t *testing.T, log []byte, base int, want []scan.Found) {
	t.Helper()
	wantAll(t, log, base, want)
	wantEach(t, log, base, want)
	for _, f := range want {
		wantAt(t, log, base, f.Lsn, want)
		wantAt(t, log, base, f.Lsn+1, want)
	}
	end := base + total(want) + 1
	for _, lsn := range []int{math.MinInt, -1, 0, base, base + 1, end, mostLsn, math.MaxInt} {
		wantAt(t, log, base, lsn, want)
	}
}

func TestExamples(t *testing.T) { // P10.1, P10.2, P10.3
	wantFound(t, nil, 0, nil)
	wantFound(t, []byte{}, 0, nil)
	log, two := logOf(0, begin, commit)
	if len(log) != 67 || two[0].Lsn != 1 || two[0].Size != 34 || two[1].Lsn != 35 || two[1].Size != 33 {
		t.Fatalf("the example's log is another: %d bytes, %+v", len(log), two)
	}
	wantFound(t, log, 0, two)
	wantFound(t, log[:66], 0, two[:1])
	wantFound(t, log[:34], 0, two[:1])
	wantFound(t, log[:33], 0, nil)
	wantFound(t, log, 5, nil)
	from5, found := logOf(5, begin, commit)
	if found[0].Lsn != 6 || found[1].Lsn != 40 {
		t.Fatalf("the example's LSNs are others: %+v", found)
	}
	wantFound(t, from5, 5, found)
	for _, lsn := range []int{35, 34, 0, 68, -1} {
		wantAt(t, log, 0, lsn, two)
	}
	wrong := framed(1, body(api.Record{Kind: 1, Id: 65}))
	wantFound(t, slices.Concat(wrong, framed(35, body(commit))), 0, nil)
	wantFound(t, log[:34], -1, nil)
	wantFound(t, log[:34], mostLsn+1, nil)
}

func TestAllKindsAtAllBases(t *testing.T) { // P10.1, P10.2, P10.3, P10.5
	for _, base := range bases() {
		log, want := logOf(base, some()...)
		wantFound(t, log, base, want)
		for i := range want { // each kind as the first and only one
			log, one := logOf(base, want[i].R)
			wantFound(t, log, base, one)
		}
		for _, other := range []int{base - 1, base + 1, base + 34, base + 256} {
			wantFound(t, log, other, nil)
		}
	}
}

func TestJustTheRecordsThatWereFramed(t *testing.T) { // P10.5
	for _, base := range bases() {
		var log []byte
		var want []scan.Found
		for _, r := range some() {
			b, e := record.Bytes(r)
			f, g := frame.Wrap(base+len(log)+1, b)
			if e != api.OK || g != api.OK {
				t.Fatalf("Bytes %d, Wrap %d", e, g)
			}
			want = append(want, scan.Found{Lsn: base + len(log) + 1, Size: len(f), R: r})
			log = append(log, f...)
		}
		wantFound(t, log, base, want)
		if _, n := scan.All(log, base); n != len(log) {
			t.Errorf("All(base %d): %d bytes of %d", base, n, len(log))
		}
	}
}

func TestLsnsUpToTheGreatest(t *testing.T) { // P10.1, P10.3
	log, want := logOf(mostLsn-1, begin, commit)
	wantFound(t, log, mostLsn-1, want[:1]) // the commit's LSN is above MaxLsn
	log, want = logOf(mostLsn-35, begin, commit)
	wantFound(t, log, mostLsn-35, want) // just MaxLsn
	log, want = logOf(mostLsn-34, begin, commit)
	wantFound(t, log, mostLsn-34, want[:1])
	log, _ = logOf(mostLsn, begin, commit)
	wantFound(t, log, mostLsn, nil)
}

func TestWrongBases(t *testing.T) { // P10.1, P10.2, P10.3
	for _, base := range noBases() {
		log, _ := logOf(base, begin, begin, commit) // LSNs wrap round as the sums do: they would fit
		wantFound(t, log, base, nil)
		wantFound(t, nil, base, nil)
		for lsn := range 200 {
			wantAt(t, log, base, base+lsn, nil)
		}
	}
}

func TestEveryBeginningOfALog(t *testing.T) { // P10.5
	log, want := logOf(77, some()...)
	for n := range len(log) + 1 {
		whole := 0
		for whole < len(want) && total(want[:whole+1]) <= n {
			whole++
		}
		wantAll(t, log[:n], 77, want[:whole])
		wantEach(t, log[:n], 77, want[:whole])
		if whole < len(want) {
			wantAt(t, log[:n], 77, want[whole].Lsn, want[:whole])
		}
	}
}

func TestAtEveryPlace(t *testing.T) { // P10.3
	for _, base := range []int{0, 5, mostLsn - 100000} {
		log, want := logOf(base, some()...)
		for lsn := base - 5; lsn < base+len(log)+50; lsn++ {
			wantAt(t, log, base, lsn, want)
		}
		for _, lsn := range []int{math.MinInt, math.MinInt + 1, -mostLsn, -1, 0, mostLsn, mostLsn + 1, math.MaxInt - 1, math.MaxInt} {
			wantAt(t, log, base, lsn, want)
			wantAt(t, nil, base, lsn, nil)
		}
	}
}

// noRecords gives bodies that a frame may have and that are no record.
func noRecords() [][]byte {
	return [][]byte{
		{0}, {1}, {8}, make([]byte, 17), make([]byte, 1024),
		body(api.Record{Kind: 1, Id: 65}), body(api.Record{Kind: 1, Id: 0}), body(api.Record{Kind: 1, Birth: 1, Id: 3}),
		body(api.Record{Kind: 4, Birth: 0, Prev: 1}), body(api.Record{Kind: 8, Birth: 1, Prev: 1}),
		body(begin)[:17], append(body(begin), 0), append(body(commit), 0), body(commit)[:16],
		body(api.Record{Kind: 2, Birth: 1, Prev: 1, Page: 2, From: 16, Before: []byte{1}, After: []byte{1}}),
		body(api.Record{Kind: 7, Dirty: []api.Rec{{Page: 3, Lsn: 1}, {Page: 3, Lsn: 1}}}),
	}
}

func TestAFrameWithoutARecordEndsIt(t *testing.T) { // P10.1, P10.2, P10.3
	for _, base := range []int{0, 99} {
		for _, ahead := range [][]api.Record{nil, {begin}, {begin, commit}} {
			for _, b := range noRecords() {
				log, want := logOf(base, ahead...)
				log = append(log, framed(base+len(log)+1, b)...)
				wantFound(t, log, base, want)
				behind := base + len(log) + 1
				log = append(log, framed(behind, body(begin))...)
				wantFound(t, log, base, want)
				wantAt(t, log, base, behind, want)
			}
		}
	}
}

func TestWhatStandsBehindChangesNothing(t *testing.T) { // P10.5
	log, want := logOf(0, some()...)
	next := len(log) + 1
	right := framed(next, body(begin))
	lasting := framed(next, body(begin))
	lasting[len(lasting)-1] ^= 1
	for _, behind := range [][]byte{
		{0}, {1, 0, 0, 0}, make([]byte, 11), make([]byte, 3000), bytes.Repeat([]byte{255}, 3000), bytes.Repeat([]byte{1}, 50),
		framed(next-1, body(begin)), framed(next+1, body(begin)), framed(1, body(begin)), framed(0, body(begin)), framed(-next, body(begin)),
		right[:33], right[1:], lasting, log,
		slices.Concat([]byte{0}, framed(next+1, body(begin))), // a right one, where no frame ahead of it leads
		slices.Concat(right[:33], framed(next+33, body(begin))),
		slices.Concat(lasting, framed(next+34, body(commit))),
	} {
		wantFound(t, slices.Concat(log, behind), 0, want)
	}
	further, found := logOf(0, append(some(), begin, commit)...)
	wantFound(t, further, 0, found)
}

func TestATurnedByteEndsItAheadOfItsFrame(t *testing.T) { // P10.5
	for _, base := range []int{0, 5, mostLsn - 100000} {
		log, want := logOf(base, begin, commit, some()[1], some()[5], commit)
		for i := range log {
			ahead := 0
			for total(want[:ahead+1]) <= i {
				ahead++
			}
			ofLength := i-total(want[:ahead]) < 4
			for turn := 1; turn < 256; turn++ {
				b := slices.Clone(log)
				b[i] ^= byte(turn)
				got, n := scan.All(b, base)
				if len(got) < ahead || !slices.EqualFunc(got[:ahead], want[:ahead], sameFound) {
					t.Fatalf("byte %d turned by %d: %+v, want the first %d of %+v", i, turn, got, ahead, want)
				}
				if !ofLength && (len(got) != ahead || n != total(want[:ahead])) {
					t.Fatalf("byte %d turned by %d: %d frames, %d bytes, want %d", i, turn, len(got), n, ahead)
				}
			}
		}
	}
}

func TestEachGoesByTheLogAsItWas(t *testing.T) { // P10.2
	for _, base := range []int{0, 5} {
		log, want := logOf(base, some()...)
		given := slices.Clone(log)
		each := scan.Each(given, base)
		clear(given)
		wantWalk(t, each, want)
		other, _ := logOf(base, commit, begin)
		copy(given, other)
		wantWalk(t, each, want)

		given = slices.Clone(log)
		each = scan.Each(given, base)
		k := 0
		for lsn, r := range each { // turned while it goes on
			clear(given)
			if lsn != want[k].Lsn || !same(r, want[k].R) {
				t.Errorf("the record number %d: %d, %+v", k, lsn, r)
			}
			k++
		}
		if k != len(want) {
			t.Errorf("%d records, want %d", k, len(want))
		}

		short := slices.Clone(log)
		each = scan.Each(short[:total(want[:2])], base)
		wantWalk(t, each, want[:2]) // what is behind, in the spare room, is not of the log

		first, behind := slices.Clone(log[:34]), slices.Clone(log[34:])
		first = slices.Grow(first, len(behind))
		each = scan.Each(first, base)
		_ = append(first, behind...) // laid behind it later
		wantWalk(t, each, want[:1])
	}
}

func TestEachStopsAndBeginsAgain(t *testing.T) { // P10.2
	log, want := logOf(5, some()...)
	each := scan.Each(log, 5)
	for stop := range len(want) + 1 {
		k := 0
		for lsn, r := range each {
			if k == stop {
				break
			}
			if lsn != want[k].Lsn || !same(r, want[k].R) {
				t.Errorf("the record number %d: %d, %+v", k, lsn, r)
			}
			k++
		}
		if k != min(stop, len(want)) {
			t.Errorf("stopped at %d: %d records", stop, k)
		}
		wantWalk(t, each, want)
	}
}

func TestEachStopsAtOnce(t *testing.T) { // P10.2
	log, want := logOf(0, some()...)
	for stop := 1; stop <= len(want); stop++ {
		calls := 0
		scan.Each(log, 0)(func(int, api.Record) bool {
			calls++
			return calls < stop
		})
		if calls != stop {
			t.Errorf("stopped at record %d: called %d times", stop, calls)
		}
	}
}

func TestEachWithinItself(t *testing.T) { // P10.2
	log, want := logOf(5, some()...)
	each := scan.Each(log, 5)
	k := 0
	for lsn, r := range each {
		wantWalk(t, each, want)
		for range each {
			break
		}
		if lsn != want[k].Lsn || !same(r, want[k].R) {
			t.Errorf("the record number %d: %d, %+v", k, lsn, r)
		}
		k++
	}
	if k != len(want) {
		t.Errorf("%d records, want %d", k, len(want))
	}
	one, stopOne := iter.Pull2(each) // two goings, each a step at a time
	defer stopOne()
	two, stopTwo := iter.Pull2(each)
	defer stopTwo()
	for _, w := range want {
		a, r, ok := one()
		b, s, too := two()
		if !ok || !too || a != w.Lsn || b != w.Lsn || !same(r, w.R) || !same(s, w.R) {
			t.Errorf("side by side: %d and %d, want %d", a, b, w.Lsn)
		}
	}
	if _, _, ok := one(); ok {
		t.Errorf("more records than %d", len(want))
	}
}

// scribble writes over all lists of a record and their spare room.
func scribble(r api.Record) {
	for _, b := range [][]byte{r.Before, r.After} {
		b = b[:cap(b)]
		for i := range b {
			b[i] = 0xee
		}
	}
	clear(r.Rows[:cap(r.Rows)])
	clear(r.Dirty[:cap(r.Dirty)])
}

func TestEachHandsOutNewMemory(t *testing.T) { // P10.2, P10.4
	log, want := logOf(5, some()...)
	given := slices.Clone(log)
	each := scan.Each(given, 5)
	var kept []api.Record
	for range 3 {
		k := 0
		for _, r := range each {
			if !same(r, want[k].R) {
				t.Errorf("the record number %d: %+v, want %+v", k, r, want[k].R)
			}
			if k%2 == 0 {
				scribble(r)
			} else {
				kept = append(kept, r)
			}
			k++
		}
	}
	if !bytes.Equal(given, log) {
		t.Errorf("the log was changed")
	}
	for range each { // further goings leave what was handed out
	}
	clear(given)
	for i, r := range kept {
		if w := want[1+2*(i%(len(want)/2))].R; !same(r, w) {
			t.Errorf("what was handed out was changed: %+v, want %+v", r, w)
		}
	}
}

// marked gives a copy with marks in the room behind it.
func marked(b []byte) []byte {
	return append(slices.Clone(b), bytes.Repeat([]byte{0xa5}, 64)...)[:len(b)]
}

// unharmed looks that a marked copy is as it was, its spare room too.
func unharmed(t *testing.T, given, want []byte) {
	t.Helper()
	if !bytes.Equal(given, want) || !bytes.Equal(given[len(given):len(given)+64], bytes.Repeat([]byte{0xa5}, 64)) {
		t.Errorf("what was handed in was changed")
	}
}

func TestWhatIsHandedInStays(t *testing.T) { // P10.4
	log, want := logOf(5, some()...)
	for _, n := range []int{0, 1, 33, 34, 35, total(want[:3]), len(log) - 1, len(log)} {
		given := marked(log[:n])
		all, _ := scan.All(given, 5)
		unharmed(t, given, log[:n])
		each := scan.Each(given, 5)
		unharmed(t, given, log[:n])
		for range each {
		}
		unharmed(t, given, log[:n])
		for _, f := range want {
			at, _ := scan.At(given, 5, f.Lsn)
			unharmed(t, given, log[:n])
			scribble(at.R)
			unharmed(t, given, log[:n])
		}
		for _, f := range all {
			scribble(f.R)
		}
		for _, r := range each {
			scribble(r)
		}
		unharmed(t, given, log[:n])
	}
}

func TestWhatIsAnsweredIsNewMemory(t *testing.T) { // P10.4
	log, want := logOf(5, some()...)
	given := slices.Clone(log)
	first, _ := scan.All(given, 5)
	second, _ := scan.All(given, 5)
	at, e := scan.At(given, 5, want[2].Lsn)
	clear(given)
	for i, f := range first { // each list of the answer is apart from all others
		scribble(f.R)
		for k := i + 1; k < len(first); k++ {
			if !sameFound(first[k], want[k]) {
				t.Fatalf("frames %d and %d share memory", i, k)
			}
		}
	}
	clear(first[:cap(first)])
	if !slices.EqualFunc(second, want, sameFound) {
		t.Errorf("two answers share memory, or hold what was handed in")
	}
	if e != api.OK || !sameFound(at, want[2]) {
		t.Errorf("At's answer holds what was handed in: %+v", at)
	}
	for i := range second { // Before and After of one record
		if second[i].R.Kind == 2 {
			scribble(api.Record{Before: second[i].R.Before})
			if !bytes.Equal(second[i].R.After, want[i].R.After) {
				t.Errorf("Before and After share memory")
			}
		}
	}
}

func TestNothingIsKept(t *testing.T) { // P10.4
	log, want := logOf(0, some()...)
	other, found := logOf(9, commit, begin)
	for range 3 {
		wantFound(t, log, 0, want)
		wantFound(t, other, 9, found)
		wantFound(t, other, 0, nil)
		wantFound(t, log[:40], 0, want[:1])
	}
}

// model tells the beginning as the chapter's words say it, by the library's sum.
func model(log []byte, base int) []scan.Found {
	var all []scan.Found
	if base < 0 || base > mostLsn {
		return nil
	}
	for o := 0; len(log)-o >= 17; {
		n := int(binary.LittleEndian.Uint32(log[o:]))
		lsn := binary.LittleEndian.Uint64(log[o+4:])
		if n < 1 || n > 1024 || o+n+16 > len(log) || lsn != uint64(base+o+1) || lsn > mostLsn {
			break
		}
		if binary.LittleEndian.Uint32(log[o+12+n:]) != crc32.ChecksumIEEE(log[o:o+12+n]) {
			break
		}
		r, e := record.Parse(log[o+12 : o+12+n])
		if e != api.OK {
			break
		}
		all = append(all, scan.Found{Lsn: int(lsn), Size: n + 16, R: r})
		o += n + 16
	}
	return all
}

// piece gives a frame of a long run, most of them right.
func piece(random *rand.Rand, lsn int) []byte {
	if random.Intn(12) == 0 {
		lsn += random.Intn(3) - 1
	}
	if random.Intn(12) == 0 {
		return framed(lsn, noRecords()[random.Intn(len(noRecords()))])
	}
	return framed(lsn, body(some()[random.Intn(len(some()))]))
}

func TestLongRun(t *testing.T) { // P10.1, P10.2, P10.3, P10.5
	random := rand.New(rand.NewSource(10))
	lengths := map[int]int{}
	for range 4000 {
		base := bases()[random.Intn(len(bases()))]
		if random.Intn(10) == 0 {
			base = mostLsn - random.Intn(200)
		}
		var log []byte
		for range random.Intn(12) {
			log = append(log, piece(random, base+len(log)+1)...)
		}
		for len(log) > 0 && random.Intn(3) == 0 {
			log[random.Intn(len(log))] ^= byte(1 << random.Intn(8))
		}
		if random.Intn(3) == 0 {
			log = log[:random.Intn(len(log)+1)]
		}
		want := model(log, base)
		wantFound(t, log, base, want)
		lengths[min(len(want), 6)]++
	}
	for n := range 7 {
		if lengths[n] < 50 {
			t.Errorf("only %d beginnings of %d frames: the run does not try them", lengths[n], n)
		}
	}
}

func TestALongLog(t *testing.T) { // P10.1, P10.2, P10.3
	records := slices.Repeat([]api.Record{begin, commit}, 20000)
	log, want := logOf(1<<40, records...)
	wantAll(t, log, 1<<40, want)
	wantEach(t, log, 1<<40, want)
	wantAt(t, log, 1<<40, want[len(want)-1].Lsn, want)
	wantAt(t, log, 1<<40, want[len(want)-1].Lsn+1, want)
}
