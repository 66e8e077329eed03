package octet_test

import (
	"bytes"
	"math"
	"testing"

	"tidemark/api"
	"tidemark/octet"
)

// spare gives the bytes of want with room behind them that holds marks: whoever writes there is found out by untouched.
func spare(want ...byte) []byte {
	b := append(append([]byte{}, want...), bytes.Repeat([]byte{0xa5}, 16)...)
	return b[:len(want)]
}

func untouched(t *testing.T, b []byte, want ...byte) {
	t.Helper()
	if !bytes.Equal(b, want) || !bytes.Equal(b[len(b):cap(b)][:16], bytes.Repeat([]byte{0xa5}, 16)) {
		t.Errorf("what was handed in was changed: % x", b[:cap(b)])
	}
}

// scribble writes over a list and its spare room.
func scribble(b []byte) {
	b = b[:cap(b)]
	for i := range b {
		b[i] = 0xee
	}
}

func same(t *testing.T, what string, got []byte, want ...byte) {
	t.Helper()
	if !bytes.Equal(got, want) {
		t.Errorf("%s: % x, want % x", what, got, want)
	}
}

func wantNumber(t *testing.T, r *octet.Reader, width int, want uint64, wantErr api.Errno) {
	t.Helper()
	if v, e := r.Number(width); v != want || e != wantErr {
		t.Errorf("Number(%d): %d, %d, want %d, %d", width, v, e, want, wantErr)
	}
}

func wantInt(t *testing.T, r *octet.Reader, want int, wantErr api.Errno) {
	t.Helper()
	if v, e := r.Int(); v != want || e != wantErr {
		t.Errorf("Int(): %d, %d, want %d, %d", v, e, want, wantErr)
	}
}

func wantRow(t *testing.T, r *octet.Reader, n int, wantErr api.Errno, want ...byte) {
	t.Helper()
	if b, e := r.Row(n); !bytes.Equal(b, want) || e != wantErr {
		t.Errorf("Row(%d): % x, %d, want % x, %d", n, b, e, want, wantErr)
	}
}

func wantLeft(t *testing.T, r *octet.Reader, want int) {
	t.Helper()
	end := api.OK
	if want > 0 {
		end = api.ErrTrail
	}
	if r.Left() != want || r.End() != end {
		t.Errorf("Left %d, End %d, want %d, %d", r.Left(), r.End(), want, end)
	}
}

func TestPutLaysTheLowestByteFirst(t *testing.T) { // P1.1
	same(t, "uint8", octet.Put(nil, uint8(255)), 255)
	same(t, "uint8 0", octet.Put(nil, uint8(0)), 0)
	same(t, "uint16", octet.Put([]byte{9}, uint16(258)), 9, 2, 1)
	same(t, "uint16 most", octet.Put([]byte{}, uint16(math.MaxUint16)), 255, 255)
	same(t, "uint32", octet.Put(nil, uint32(1)), 1, 0, 0, 0)
	same(t, "uint32 all bytes", octet.Put([]byte{8, 9}, uint32(0x04030201)), 8, 9, 1, 2, 3, 4)
	same(t, "uint64", octet.Put(nil, uint64(0x0807060504030201)), 1, 2, 3, 4, 5, 6, 7, 8)
	same(t, "uint64 most", octet.Put(nil, uint64(math.MaxUint64)), 255, 255, 255, 255, 255, 255, 255, 255)
	same(t, "uint64 high", octet.Put(nil, uint64(1)<<56), 0, 0, 0, 0, 0, 0, 0, 1)
}

func TestPutAnswersNewMemory(t *testing.T) { // P1.1
	b := spare(1, 2)
	first := octet.Put(b, uint64(3))
	second := octet.Put(b, uint8(4))
	untouched(t, b, 1, 2)
	scribble(first)
	untouched(t, b, 1, 2)
	same(t, "second", second, 1, 2, 4)
	scribble(octet.Put(second, uint16(5)))
	same(t, "second", second, 1, 2, 4)
}

func wantGet[T uint8 | uint16 | uint32 | uint64](t *testing.T, b []byte, want T, wantErr api.Errno) {
	t.Helper()
	if v, e := octet.Get[T](b); v != want || e != wantErr {
		t.Errorf("Get(% x): %d, %d, want %d, %d", b, v, e, want, wantErr)
	}
}

func TestGetReadsTheFirstBytes(t *testing.T) { // P1.2
	b := []byte{2, 1, 7, 128, 5, 6, 9, 255, 77}
	wantGet[uint8](t, b, 2, api.OK)
	wantGet[uint16](t, b, 258, api.OK)
	wantGet[uint32](t, b, 0x80070102, api.OK)
	wantGet[uint64](t, b, 0xff09060580070102, api.OK)
	wantGet[uint8](t, b[:1], 2, api.OK)
	wantGet[uint16](t, b[:2], 258, api.OK)
	wantGet[uint32](t, b[:4], 0x80070102, api.OK)
	wantGet[uint64](t, b[:8], 0xff09060580070102, api.OK)
	wantGet[uint64](t, bytes.Repeat([]byte{255}, 9), math.MaxUint64, api.OK)
	given := spare(1, 2, 3, 4, 5, 6, 7, 8)
	wantGet[uint64](t, given, 0x0807060504030201, api.OK)
	untouched(t, given, 1, 2, 3, 4, 5, 6, 7, 8)
}

func TestGetOfTooFewBytes(t *testing.T) { // P1.2
	for n := range 8 {
		// Spare room is no part of the bytes: it must not be read.
		b := spare(bytes.Repeat([]byte{3}, n)...)
		wantGet[uint64](t, b, 0, api.ErrShort)
		if n < 4 {
			wantGet[uint32](t, b, 0, api.ErrShort)
		}
		if n < 2 {
			wantGet[uint16](t, b, 0, api.ErrShort)
		}
		if n < 1 {
			wantGet[uint8](t, b, 0, api.ErrShort)
		}
	}
	wantGet[uint8](t, nil, 0, api.ErrShort)
}

func TestJoin(t *testing.T) { // P1.3
	same(t, "three", octet.Join([]byte{1}, nil, []byte{2, 3}), 1, 2, 3)
	same(t, "one", octet.Join([]byte{7}), 7)
	same(t, "the order", octet.Join([]byte{3, 2}, []byte{1}, []byte{}, []byte{0}), 3, 2, 1, 0)
	same(t, "no rows", octet.Join())
	same(t, "empty rows", octet.Join(nil, []byte{}, nil))
	row := []byte{5, 6}
	same(t, "one row twice", octet.Join(row, row), 5, 6, 5, 6)
}

func TestJoinAnswersNewMemory(t *testing.T) { // P1.3
	a, b := spare(1), spare(2, 3)
	rows := [][]byte{a, b}
	scribble(octet.Join(rows...))
	untouched(t, a, 1)
	untouched(t, b, 2, 3)
	scribble(octet.Join(a))
	untouched(t, a, 1)
	same(t, "again", octet.Join(rows...), 1, 2, 3)
}

func TestReaderHoldsTheBytesAsTheyWere(t *testing.T) { // P1.4
	b := spare(7, 8, 9)
	r := octet.NewReader(b)
	scribble(b)
	wantLeft(t, r, 3)
	wantRow(t, r, 2, api.OK, 7, 8)
	scribble(b)
	wantRow(t, r, 1, api.OK, 9)
	wantLeft(t, r, 0)

	given := spare(1, 2, 3)
	r = octet.NewReader(given)
	wantNumber(t, r, 2, 513, api.OK)
	wantNumber(t, r, 2, 0, api.ErrShort)
	untouched(t, given, 1, 2, 3)

	for _, none := range [][]byte{nil, {}} {
		r = octet.NewReader(none)
		wantLeft(t, r, 0)
		wantRow(t, r, 0, api.OK)
		wantNumber(t, r, 1, 0, api.ErrShort)
	}
}

func TestNumber(t *testing.T) { // P1.5
	r := octet.NewReader([]byte{7, 2, 1, 4, 3, 2, 1, 255, 255, 255, 255, 255, 255, 255, 255, 6})
	wantNumber(t, r, 1, 7, api.OK)
	wantNumber(t, r, 2, 258, api.OK)
	wantNumber(t, r, 4, 0x01020304, api.OK)
	wantLeft(t, r, 9)
	wantNumber(t, r, 8, math.MaxUint64, api.OK)
	wantNumber(t, r, 2, 0, api.ErrShort)
	wantNumber(t, r, 1, 6, api.OK)
	wantNumber(t, r, 1, 0, api.ErrShort)
	wantLeft(t, r, 0)
}

func TestNumberRefuses(t *testing.T) { // P1.5
	wrong := []int{math.MinInt, -8, -1, 0, 3, 5, 6, 7, 9, 16, 257, math.MaxInt}
	full := octet.NewReader(bytes.Repeat([]byte{1}, 20))
	empty := octet.NewReader(nil)
	for _, w := range wrong {
		wantNumber(t, full, w, 0, api.ErrRange)
		wantNumber(t, empty, w, 0, api.ErrRange) // a wrong width is named ahead of too few bytes
	}
	wantLeft(t, full, 20)
	for _, w := range []int{1, 2, 4, 8} {
		r := octet.NewReader(bytes.Repeat([]byte{9}, w-1))
		wantNumber(t, r, w, 0, api.ErrShort)
		wantLeft(t, r, w-1)
	}
}

func TestInt(t *testing.T) { // P1.6
	r := octet.NewReader(octet.Join(
		octet.Put(nil, uint64(0)), octet.Put(nil, uint64(0x0706050403020100)), octet.Put(nil, uint64(api.MaxLsn)), []byte{1, 2, 3, 4, 5, 6, 7}))
	wantInt(t, r, 0, api.OK)
	wantInt(t, r, 0x0706050403020100, api.OK)
	wantInt(t, r, api.MaxLsn, api.OK)
	wantLeft(t, r, 7)
	wantInt(t, r, 0, api.ErrShort)
	wantLeft(t, r, 7)
}

func TestIntRefuses(t *testing.T) { // P1.6
	for _, v := range []uint64{api.MaxLsn + 1, 17 << 56, 1 << 61, 1 << 63, math.MaxInt64, math.MaxUint64} {
		r := octet.NewReader(octet.Put(nil, v))
		wantInt(t, r, 0, api.ErrRange)
		wantLeft(t, r, 8)
		wantNumber(t, r, 8, v, api.OK)
		wantLeft(t, r, 0)
	}
	for n := range 8 { // too few bytes, whatever they are
		r := octet.NewReader(bytes.Repeat([]byte{255}, n))
		wantInt(t, r, 0, api.ErrShort)
		wantLeft(t, r, n)
	}
}

func TestRow(t *testing.T) { // P1.7
	r := octet.NewReader([]byte{1, 2, 3, 4, 5, 6})
	wantRow(t, r, 0, api.OK)
	wantLeft(t, r, 6)
	wantRow(t, r, 1, api.OK, 1)
	wantRow(t, r, 3, api.OK, 2, 3, 4)
	wantRow(t, r, 2, api.OK, 5, 6)
	wantRow(t, r, 0, api.OK)
	wantRow(t, r, 1, api.ErrShort)
	wantLeft(t, r, 0)
}

func TestRowRefuses(t *testing.T) { // P1.7
	r := octet.NewReader([]byte{1, 2})
	for _, n := range []int{-1, -2, math.MinInt} {
		wantRow(t, r, n, api.ErrRange)
	}
	for _, n := range []int{3, 4, math.MaxInt} {
		wantRow(t, r, n, api.ErrShort)
	}
	wantLeft(t, r, 2)
	wantRow(t, r, 2, api.OK, 1, 2)
	wantRow(t, r, -1, api.ErrRange)
}

func TestRowAnswersNewMemory(t *testing.T) { // P1.7
	b := []byte{1, 2, 3, 4}
	r := octet.NewReader(b)
	first, _ := r.Row(2)
	none, _ := r.Row(0)
	scribble(first)
	scribble(none)
	same(t, "handed in", b, 1, 2, 3, 4)
	second, e := r.Row(2)
	if e != api.OK {
		t.Fatalf("Row: %d", e)
	}
	same(t, "second", second, 3, 4)
	scribble(first)
	same(t, "second", second, 3, 4)
}

func TestLeftAndEnd(t *testing.T) { // P1.8
	r := octet.NewReader([]byte{1, 2, 3})
	for range 3 { // asking takes nothing
		wantLeft(t, r, 3)
	}
	wantNumber(t, r, 2, 513, api.OK)
	for range 3 {
		wantLeft(t, r, 1)
	}
	wantRow(t, r, 1, api.OK, 3)
	for range 3 {
		wantLeft(t, r, 0)
	}
}

func roundTrip[T uint8 | uint16 | uint32 | uint64](t *testing.T, width int, v T) {
	t.Helper()
	b := octet.Put(nil, v)
	wantGet(t, b, v, api.OK)
	r := octet.NewReader(b)
	wantNumber(t, r, width, uint64(v), api.OK)
	wantLeft(t, r, 0)
}

func TestWhatIsPutIsGot(t *testing.T) { // P1.9
	for v := range 256 {
		roundTrip(t, 1, uint8(v))
	}
	for v := range 65536 {
		roundTrip(t, 2, uint16(v))
	}
	for i := range 64 {
		for _, v := range []uint64{1 << i, 1<<i - 1, ^uint64(1 << i), 0x9e3779b97f4a7c15 << i} {
			roundTrip(t, 4, uint32(v))
			roundTrip(t, 8, v)
		}
	}
}

func TestJoinedRowsAreReadAgain(t *testing.T) { // P1.9
	var rows [][]byte
	whole := 0
	for i := range 40 {
		row := make([]byte, i*7%13)
		for k := range row {
			row[k] = byte(i*31 + k)
		}
		rows = append(rows, row)
		whole += len(row)
	}
	r := octet.NewReader(octet.Join(rows...))
	taken := 0
	for _, row := range rows {
		wantLeft(t, r, whole-taken)
		wantRow(t, r, len(row), api.OK, row...)
		taken += len(row)
	}
	wantLeft(t, r, 0)
}

// refuseAll makes calls that must be refused, of a reader whose bytes are all above 0x10, so that no eight of them are an int.
func refuseAll(t *testing.T, r *octet.Reader) {
	t.Helper()
	wantNumber(t, r, 3, 0, api.ErrRange)
	wantRow(t, r, -1, api.ErrRange)
	wantRow(t, r, r.Left()+1, api.ErrShort)
	if r.Left() >= 8 {
		wantInt(t, r, 0, api.ErrRange)
	} else {
		wantInt(t, r, 0, api.ErrShort)
		wantNumber(t, r, 8, 0, api.ErrShort)
	}
}

func TestRefusedCallsChangeNothing(t *testing.T) { // P1.9
	var b []byte
	for i := range 16 {
		b = append(b, byte(0x40+i))
	}
	calm, cross := octet.NewReader(b), octet.NewReader(b)
	for _, width := range []int{2, 4, 1, 2, 8, 1} { // 8 is refused to both: 7 are left then
		refuseAll(t, cross)
		v, e := calm.Number(width)
		wantNumber(t, cross, width, v, e)
		wantLeft(t, cross, calm.Left())
	}
	refuseAll(t, cross)
	wantRow(t, calm, 6, api.OK, b[10:]...)
	wantRow(t, cross, 6, api.OK, b[10:]...)
	wantLeft(t, cross, 0)
}

func TestReadersShareNothing(t *testing.T) { // P1.9
	b := []byte{1, 2, 3, 4}
	one, two := octet.NewReader(b), octet.NewReader(b)
	row, _ := one.Row(3)
	scribble(row)
	wantLeft(t, one, 1)
	wantLeft(t, two, 4)
	wantRow(t, two, 4, api.OK, 1, 2, 3, 4)
	wantNumber(t, one, 1, 4, api.OK)
}
