package page_test

import (
	"bytes"
	"encoding/binary"
	"hash/crc32"
	"math"
	"math/rand"
	"testing"

	"tidemark/api"
	"tidemark/page"
)

// room is how many marked bytes spare leaves behind a list.
const room = 200

// spare gives a copy of b with room behind it that holds marks: whoever writes there is found out by untouched.
func spare(b []byte) []byte {
	c := append(bytes.Clone(b), bytes.Repeat([]byte{0xa5}, room)...)
	return c[:len(b)]
}

func untouched(t *testing.T, b, want []byte) {
	t.Helper()
	if !bytes.Equal(b, want) || !bytes.Equal(b[len(b):len(b)+room], bytes.Repeat([]byte{0xa5}, room)) {
		t.Errorf("what was handed in was changed: % x, want % x", b[:len(b)+room], want)
	}
}

// scribble writes over a list and its spare room.
func scribble(b []byte) {
	b = b[:cap(b)]
	for i := range b {
		b[i] ^= 0xff
	}
}

// length is what the document says, written out: none of the program's calls is asked.
func length(slots int) int { return 24 + 16*slots }

// isPage tells whether a page may have so many bytes.
func isPage(n int) bool {
	for slots := 1; slots <= 8; slots++ {
		if n == length(slots) {
			return true
		}
	}
	return false
}

// build lays a page out by hand, with the library's sum: lsn at the beginning, end behind the slots.
func build(lsn uint64, number uint32, slots []byte, end uint64) []byte {
	b := make([]byte, 16, len(slots)+24)
	binary.LittleEndian.PutUint64(b, lsn)
	binary.LittleEndian.PutUint32(b[8:], number)
	b = append(b, slots...)
	b = binary.LittleEndian.AppendUint64(b, end)
	return sum(b)
}

// sum gives b with the sum that the library finds.
func sum(b []byte) []byte {
	s := crc32.Update(crc32.ChecksumIEEE(b[:12]), crc32.IEEETable, b[16:])
	binary.LittleEndian.PutUint32(b[12:], s)
	return b
}

// noise gives bytes from a seeded source.
func noise(r *rand.Rand, n int) []byte {
	b := make([]byte, n)
	r.Read(b)
	return b
}

// someSlots gives the bytes of so many slots, some used, some zeros, some neither.
func someSlots(r *rand.Rand, slots int) []byte {
	var b []byte
	for range slots {
		row := make([]byte, 16)
		switch r.Intn(4) {
		case 0:
		case 1:
			row = noise(r, 16)
		default:
			row = noise(r, 16)
			row[0] = 1
		}
		b = append(b, row...)
	}
	return b
}

func blank(slots int) []byte { return make([]byte, length(slots)) }

func wantCheck(t *testing.T, b []byte, number, slots, lsn int) {
	t.Helper()
	if l, e := page.Check(b, number, slots); l != lsn || e != api.OK {
		t.Errorf("Check(% x, %d, %d): %d, %d, want %d, OK", b, number, slots, l, e, lsn)
	}
}

func refuseCheck(t *testing.T, b []byte, number, slots int) {
	t.Helper()
	if l, e := page.Check(b, number, slots); l != 0 || e != api.ErrPage {
		t.Errorf("Check(% x, %d, %d): %d, %d, want 0, ErrPage", b, number, slots, l, e)
	}
}

func wantSlot(t *testing.T, b []byte, i int, want api.Entry, there bool) {
	t.Helper()
	if x, u, e := page.Slot(b, i); x != want || u != there || e != api.OK {
		t.Errorf("Slot(% x, %d): %v, %v, %d, want %v, %v, OK", b, i, x, u, e, want, there)
	}
}

// refuse asks all of Slot, Fill (with a key that may be) and Free.
func refuse(t *testing.T, b []byte, i int, want api.Errno) {
	t.Helper()
	if x, u, e := page.Slot(b, i); x != (api.Entry{}) || u || e != want {
		t.Errorf("Slot of %d bytes, %d: %v, %v, %d, want none, %d", len(b), i, x, u, e, want)
	}
	refuseFill(t, b, i, 5, want)
	if f, e := page.Free(b, i); len(f) != 0 || e != want {
		t.Errorf("Free of %d bytes, %d: % x, %d, want none, %d", len(b), i, f, e, want)
	}
}

func refuseFill(t *testing.T, b []byte, i int, key int, want api.Errno) {
	t.Helper()
	if f, e := page.Fill(b, i, api.Entry{Key: key, Value: 7}); len(f) != 0 || e != want {
		t.Errorf("Fill of %d bytes, %d, key %d: % x, %d, want none, %d", len(b), i, key, f, e, want)
	}
}

func refuseStamp(t *testing.T, b []byte, number, lsn int, want api.Errno) {
	t.Helper()
	if s, e := page.Stamp(b, number, lsn); len(s) != 0 || e != want {
		t.Errorf("Stamp of %d bytes, %d, %d: % x, %d, want none, %d", len(b), number, lsn, s, e, want)
	}
}

func stamp(t *testing.T, b []byte, number, lsn int) []byte {
	t.Helper()
	s, e := page.Stamp(b, number, lsn)
	if e != api.OK {
		t.Fatalf("Stamp of %d bytes, %d, %d: %d", len(b), number, lsn, e)
	}
	return s
}

func fill(t *testing.T, b []byte, i int, x api.Entry) []byte {
	t.Helper()
	f, e := page.Fill(b, i, x)
	if e != api.OK {
		t.Fatalf("Fill of %d bytes, %d, %v: %d", len(b), i, x, e)
	}
	return f
}

func free(t *testing.T, b []byte, i int) []byte {
	t.Helper()
	f, e := page.Free(b, i)
	if e != api.OK {
		t.Fatalf("Free of %d bytes, %d: %d", len(b), i, e)
	}
	return f
}

// placed is an entry and its slot.
type placed struct {
	i int
	x api.Entry
}

// told gives what Entries tells, once gone through.
func told(b []byte) []placed {
	var out []placed
	for i, x := range page.Entries(b) {
		out = append(out, placed{i, x})
	}
	return out
}

func wantPlaced(t *testing.T, got, want []placed) {
	t.Helper()
	if len(got) != len(want) {
		t.Fatalf("Entries tells %v, want %v", got, want)
	}
	for k := range want {
		if got[k] != want[k] {
			t.Fatalf("Entries tells %v, want %v", got, want)
		}
	}
}

func TestBytes(t *testing.T) { // P4.1
	for slots, want := range map[int]int{1: 40, 2: 56, 3: 72, 4: 88, 5: 104, 6: 120, 7: 136, 8: 152} {
		if n := page.Bytes(slots); n != want {
			t.Errorf("Bytes(%d): %d, want %d", slots, n, want)
		}
	}
	for _, slots := range []int{0, -1, -8, 9, 10, 16, 1 << 60, math.MaxInt, math.MinInt} {
		if n := page.Bytes(slots); n != 0 {
			t.Errorf("Bytes(%d): %d, want 0", slots, n)
		}
	}
}

func TestMake(t *testing.T) { // P4.2
	for number := range 16 {
		for slots := 1; slots <= 8; slots++ {
			b, e := page.Make(number, slots)
			if want := build(0, uint32(number), make([]byte, 16*slots), 0); !bytes.Equal(b, want) || e != api.OK {
				t.Errorf("Make(%d, %d): % x, %d, want % x", number, slots, b, e, want)
			}
			scribble(b)
		}
	}
	b, _ := page.Make(2, 1)
	if want := append([]byte{8: 2, 15: 0}, make([]byte, 24)...); !bytes.Equal(b[:12], want[:12]) || !bytes.Equal(b[16:], want[16:]) || len(b) != 40 {
		t.Errorf("Make(2, 1): % x", b)
	}
}

func TestMakeRefuses(t *testing.T) { // P4.2
	for _, c := range []struct {
		number, slots int
		want          api.Errno
	}{
		{16, 1, api.ErrPage}, {-1, 1, api.ErrPage}, {17, 8, api.ErrPage},
		{math.MaxInt, 1, api.ErrPage}, {math.MinInt, 1, api.ErrPage}, {1 << 32, 1, api.ErrPage},
		{2, 9, api.ErrSlot}, {2, 0, api.ErrSlot}, {2, -1, api.ErrSlot},
		{2, math.MaxInt, api.ErrSlot}, {2, math.MinInt, api.ErrSlot},
		{99, 0, api.ErrSlot}, {-1, 9, api.ErrSlot}, {16, -1, api.ErrSlot},
	} {
		if b, e := page.Make(c.number, c.slots); len(b) != 0 || e != c.want {
			t.Errorf("Make(%d, %d): % x, %d, want none, %d", c.number, c.slots, b, e, c.want)
		}
	}
}

func TestCheckOfRightPages(t *testing.T) { // P4.3
	r := rand.New(rand.NewSource(1))
	for slots := 1; slots <= 8; slots++ {
		for number := range 16 {
			for _, lsn := range []int{0, 1, 77, 255, 256, 1 << 32, 1<<56 + 1, api.MaxLsn - 1, api.MaxLsn} {
				b := build(uint64(lsn), uint32(number), someSlots(r, slots), uint64(lsn))
				wantCheck(t, b, number, slots, lsn)
			}
		}
	}
}

func TestCheckOfBlankPages(t *testing.T) { // P4.3
	for slots := 1; slots <= 8; slots++ {
		for number := range 16 {
			wantCheck(t, blank(slots), number, slots, 0)
		}
	}
	// What stands in the spare room is no part of a page.
	wantCheck(t, append(blank(1), 1)[:40], 5, 1, 0)
	refuseCheck(t, blank(1), 16, 1)
	refuseCheck(t, blank(1), -1, 1)
	refuseCheck(t, blank(1), 5, 2)
	for _, i := range []int{0, 7, 8, 11, 12, 15, 16, 31, 32, 39} {
		b := blank(1)
		b[i] = 1
		refuseCheck(t, b, 0, 1)
	}
}

func TestCheckDoesNotLookAtSlots(t *testing.T) { // P4.3
	wantCheck(t, build(77, 2, bytes.Repeat([]byte{0xff}, 16), 77), 2, 1, 77)
	// Free, but not zeros; a key twice.
	wantCheck(t, build(77, 2, []byte{0, 9, 9, 9, 9, 15: 9}, 77), 2, 1, 77)
	twice := []byte{0: 1, 4: 5, 16: 1, 20: 5, 31: 0}
	wantCheck(t, build(77, 2, twice, 77), 2, 2, 77)
}

func TestCheckRefusesArguments(t *testing.T) { // P4.3
	right := build(77, 2, make([]byte, 16), 77)
	for _, number := range []int{0, 1, 3, 15, 16, -1, -2, 2 + 1<<32, math.MaxInt, math.MinInt} {
		refuseCheck(t, right, number, 1)
	}
	for _, slots := range []int{0, 2, 8, 9, -1, math.MaxInt, math.MinInt} {
		refuseCheck(t, right, 2, slots)
	}
	// A number that no page has, though it stands in the page.
	refuseCheck(t, build(77, 16, make([]byte, 16), 77), 16, 1)
	// Nine slots, or none, though all else is right.
	refuseCheck(t, build(77, 2, make([]byte, 9*16), 77), 2, 9)
	refuseCheck(t, build(77, 2, nil, 77), 2, 0)
	for _, slots := range []int{0, -1, 1, 9} {
		refuseCheck(t, nil, 0, slots)
		refuseCheck(t, []byte{}, 0, slots)
	}
	for n := range 200 {
		for slots := -1; slots <= 10; slots++ {
			if slots < 1 || slots > 8 || n != length(slots) {
				refuseCheck(t, make([]byte, n), 0, slots)
			}
		}
	}
	refuseCheck(t, right[:39], 2, 1)
	refuseCheck(t, append(bytes.Clone(right), 0), 2, 1)
}

func TestCheckRefusesPages(t *testing.T) { // P4.3
	zeros := make([]byte, 16)
	for _, c := range [][2]uint64{
		{77, 78}, {78, 77}, {0, 1}, {1, 0}, {1, 1 << 56}, {77, 77 + 1<<59}, {api.MaxLsn, 0},
		{api.MaxLsn + 1, api.MaxLsn + 1}, {1 << 63, 1 << 63}, {math.MaxUint64, math.MaxUint64}, {77, 77 + 1<<63},
	} {
		refuseCheck(t, build(c[0], 2, zeros, c[1]), 2, 1)
	}
	for _, number := range []uint32{0, 1, 3, 2 + 1<<8, 2 + 1<<16, 2 + 1<<24, math.MaxUint32} {
		refuseCheck(t, build(77, number, zeros, 77), 2, 1)
	}
	for i := 12; i < 16; i++ {
		b := build(77, 2, zeros, 77)
		b[i]++
		refuseCheck(t, b, 2, 1)
	}
	// The sum of all bytes, with zeros where the sum stands, is another.
	b := build(77, 2, zeros, 77)
	copy(b[12:16], zeros)
	binary.LittleEndian.PutUint32(b[12:], crc32.ChecksumIEEE(b))
	refuseCheck(t, b, 2, 1)
	// A sum with the highest byte first.
	b = build(77, 2, zeros, 77)
	binary.BigEndian.PutUint32(b[12:], binary.LittleEndian.Uint32(b[12:]))
	refuseCheck(t, b, 2, 1)
}

func TestLsn(t *testing.T) { // P4.4
	for slots := 1; slots <= 8; slots++ {
		for _, lsn := range []uint64{0, 1, 255, 258, 1 << 32, 1<<56 - 1, api.MaxLsn - 1, api.MaxLsn} {
			// The rest of the page need not be right.
			b := bytes.Repeat([]byte{0xff}, length(slots))
			binary.LittleEndian.PutUint64(b, lsn)
			if l, e := page.Lsn(b); l != int(lsn) || e != api.OK {
				t.Errorf("Lsn of %d slots, %d: %d, %d", slots, lsn, l, e)
			}
		}
		for _, lsn := range []uint64{api.MaxLsn + 1, 17 << 56, 1 << 63, math.MaxUint64} {
			b := blank(slots)
			binary.LittleEndian.PutUint64(b, lsn)
			if l, e := page.Lsn(b); l != 0 || e != api.ErrPage {
				t.Errorf("Lsn of %d slots, %d: %d, %d, want 0, ErrPage", slots, lsn, l, e)
			}
		}
	}
}

func TestNoPageBytes(t *testing.T) { // P4.4, P4.5, P4.6, P4.7, P4.8
	for n := range 200 {
		if isPage(n) {
			continue
		}
		b := bytes.Repeat([]byte{1}, n)
		if l, e := page.Lsn(b); l != 0 || e != api.ErrPage {
			t.Errorf("Lsn of %d bytes: %d, %d, want 0, ErrPage", n, l, e)
		}
		refuseStamp(t, b, 2, 5, api.ErrPage)
		refuseStamp(t, b, 2, -1, api.ErrPage)
		refuse(t, b, 0, api.ErrPage)
		refuse(t, b, -1, api.ErrPage)
		refuse(t, b, 9, api.ErrPage)
		refuseFill(t, b, 9, -1, api.ErrPage)
		wantPlaced(t, told(b), nil)
	}
	refuse(t, nil, 0, api.ErrPage)
	refuseStamp(t, nil, 2, 5, api.ErrPage)
	if l, e := page.Lsn(nil); l != 0 || e != api.ErrPage {
		t.Errorf("Lsn(nil): %d, %d", l, e)
	}
	wantPlaced(t, told(nil), nil)
	if page.Entries(nil) == nil || page.Entries(make([]byte, 41)) == nil || page.Entries(blank(1)) == nil {
		t.Error("Entries is nil")
	}
}

func TestStamp(t *testing.T) { // P4.5
	r := rand.New(rand.NewSource(2))
	for slots := 1; slots <= 8; slots++ {
		for number := range 16 {
			for _, lsn := range []int{0, 1, 258, 1 << 32, api.MaxLsn - 1, api.MaxLsn} {
				// What stood in the stamps, the number and the sum does not matter.
				old := noise(r, length(slots))
				b := spare(old)
				got := stamp(t, b, number, lsn)
				want := build(uint64(lsn), uint32(number), old[16:len(old)-8], uint64(lsn))
				if !bytes.Equal(got, want) {
					t.Errorf("Stamp(% x, %d, %d): % x, want % x", old, number, lsn, got, want)
				}
				scribble(got)
				untouched(t, b, old)
			}
		}
	}
	b := stamp(t, blank(1), 2, 258)
	if !bytes.Equal(b[:12], []byte{2, 1, 0, 0, 0, 0, 0, 0, 2, 0, 0, 0}) || !bytes.Equal(b[16:], []byte{16: 2, 17: 1, 23: 0}) {
		t.Errorf("Stamp of 40 bytes 0, 2, 258: % x", b)
	}
	wantCheck(t, b, 2, 1, 258)
	b[39] = 1
	refuseCheck(t, b, 2, 1)
}

func TestStampRefuses(t *testing.T) { // P4.5
	for _, c := range []struct {
		n, number, lsn int
		want           api.Errno
	}{
		{40, 2, -1, api.ErrRange}, {40, 2, api.MaxLsn + 1, api.ErrRange},
		{40, 2, math.MaxInt, api.ErrRange}, {40, 2, math.MinInt, api.ErrRange}, {152, 15, -1, api.ErrRange},
		{40, 16, 5, api.ErrPage}, {40, -1, 5, api.ErrPage}, {40, 1 << 32, 5, api.ErrPage},
		{40, math.MaxInt, 5, api.ErrPage}, {40, math.MinInt, 5, api.ErrPage},
		{40, 16, -1, api.ErrPage}, {40, -1, api.MaxLsn + 1, api.ErrPage},
		{41, 2, -1, api.ErrPage}, {41, 2, 5, api.ErrPage}, {0, 2, 5, api.ErrPage}, {168, 2, 5, api.ErrPage},
	} {
		refuseStamp(t, make([]byte, c.n), c.number, c.lsn, c.want)
	}
}

func TestSlot(t *testing.T) { // P4.6
	for slots := 1; slots <= 8; slots++ {
		for i := range slots {
			b := bytes.Repeat([]byte{0xee}, length(slots))
			copy(b[16+16*i:], []byte{1, 9, 9, 9, 2, 1, 0, 0x80, 7, 0, 0, 0, 0, 0, 0, 0x90})
			wantSlot(t, b, i, api.Entry{Key: 0x80000102, Value: 0x9000000000000007}, true)
			copy(b[16+16*i:], []byte{1, 0, 0, 0, 0, 0, 0, 0, 0, 0, 0, 0, 0, 0, 0, 0})
			wantSlot(t, b, i, api.Entry{}, true)
			copy(b[16+16*i:], bytes.Repeat([]byte{0xff}, 16))
			b[16+16*i] = 1
			wantSlot(t, b, i, api.Entry{Key: math.MaxUint32, Value: math.MaxUint64}, true)
			for first := range 256 {
				b[16+16*i] = byte(first)
				if first != 1 {
					wantSlot(t, b, i, api.Entry{}, false)
				}
			}
		}
	}
}

func TestNoSuchSlot(t *testing.T) { // P4.6, P4.7
	for slots := 1; slots <= 8; slots++ {
		b := bytes.Repeat([]byte{1}, length(slots))
		for _, i := range []int{-1, -2, slots, slots + 1, 8, 9, 1 << 60, math.MaxInt, math.MinInt} {
			refuse(t, b, i, api.ErrSlot)
			refuseFill(t, b, i, -1, api.ErrSlot)
			refuseFill(t, b, i, 1<<32, api.ErrSlot)
		}
	}
}

func TestFillRefusesKeys(t *testing.T) { // P4.7
	for _, key := range []int{-1, -5, 1 << 32, 1<<32 + 5, math.MaxInt, math.MinInt} {
		refuseFill(t, blank(1), 0, key, api.ErrKey)
		refuseFill(t, blank(8), 7, key, api.ErrKey)
	}
}

func TestFillAndFree(t *testing.T) { // P4.7
	r := rand.New(rand.NewSource(3))
	for slots := 1; slots <= 8; slots++ {
		for i := range slots {
			for _, x := range []api.Entry{{}, {Key: 258, Value: 7}, {Key: math.MaxUint32, Value: math.MaxUint64}, {Key: 0x04030201, Value: 0x0807060504030201}} {
				old := noise(r, length(slots))
				row := []byte{1, 0, 0, 0}
				row = binary.LittleEndian.AppendUint32(row, uint32(x.Key))
				row = binary.LittleEndian.AppendUint64(row, x.Value)
				b := spare(old)
				filled := fill(t, b, i, x)
				wantRow(t, filled, old, i, row)
				scribble(filled)
				freed := free(t, b, i)
				wantRow(t, freed, old, i, make([]byte, 16))
				scribble(freed)
				untouched(t, b, old)
			}
		}
	}
}

// wantRow looks that b is old with that row in the slot i.
func wantRow(t *testing.T, b, old []byte, i int, row []byte) {
	t.Helper()
	want := bytes.Clone(old)
	copy(want[16+16*i:], row)
	if !bytes.Equal(b, want) {
		t.Errorf("slot %d: % x, want % x", i, b, want)
	}
}

func TestFillExample(t *testing.T) { // P4.6, P4.7
	b := fill(t, blank(1), 0, api.Entry{Key: 258, Value: 7})
	wantRow(t, b, blank(1), 0, []byte{1, 0, 0, 0, 2, 1, 0, 0, 7, 0, 0, 0, 0, 0, 0, 0})
	wantSlot(t, b, 0, api.Entry{Key: 258, Value: 7}, true)
	if f := free(t, b, 0); !bytes.Equal(f, blank(1)) {
		t.Errorf("Free: % x", f)
	}
}

func TestEntries(t *testing.T) { // P4.8
	one, two := api.Entry{Key: 258, Value: 7}, api.Entry{Key: math.MaxUint32, Value: math.MaxUint64}
	b := fill(t, fill(t, blank(3), 2, two), 0, one)
	wantPlaced(t, told(b), []placed{{0, one}, {2, two}})
	b[32] = 2 // slot 1 is not used, though it is not zeros
	wantPlaced(t, told(b), []placed{{0, one}, {2, two}})
	// Entries rise by slots, not by keys, and a key may stand twice.
	b = fill(t, fill(t, b, 0, two), 1, one)
	wantPlaced(t, told(b), []placed{{0, two}, {1, one}, {2, two}})
	wantPlaced(t, told(blank(8)), nil)
	all := blank(8)
	var want []placed
	for i := range 8 {
		x := api.Entry{Key: 8 - i, Value: uint64(i)}
		all = fill(t, all, i, x)
		want = append(want, placed{i, x})
	}
	wantPlaced(t, told(all), want)
}

func TestEntriesTellsWhatWasThere(t *testing.T) { // P4.8
	x := api.Entry{Key: 258, Value: 7}
	old := fill(t, fill(t, blank(3), 0, x), 2, x)
	b := spare(old)
	seq := page.Entries(b)
	untouched(t, b, old)
	scribble(b)
	want := []placed{{0, x}, {2, x}}
	for range 3 {
		var got []placed
		for i, x := range seq {
			scribble(b)
			got = append(got, placed{i, x})
		}
		wantPlaced(t, got, want)
	}
	// Two goings through at a time don't know of each other.
	var got []placed
	for range seq {
		for i, x := range seq {
			got = append(got, placed{i, x})
		}
	}
	wantPlaced(t, got, append(want, want...))
}

func TestEntriesLeftEarly(t *testing.T) { // P4.8
	b := blank(8)
	for i := range 8 {
		b = fill(t, b, i, api.Entry{Key: i})
	}
	seq := page.Entries(b)
	for most := 1; most <= 8; most++ {
		asked := 0
		seq(func(int, api.Entry) bool {
			asked++
			return asked < most
		})
		if asked != most {
			t.Errorf("left at %d, asked %d", most, asked)
		}
	}
	for i, x := range seq {
		if i != 0 || x.Key != 0 {
			t.Errorf("the first of all: %d, %v", i, x)
		}
		break
	}
}

func TestCheckAndReadingLeaveBytes(t *testing.T) { // P4.3, P4.4, P4.6, P4.8
	old := build(77, 2, []byte{0: 1, 4: 5, 47: 0}, 77)
	b := spare(old)
	page.Check(b, 2, 3)
	page.Check(b, 1, 3)
	page.Lsn(b)
	page.Slot(b, 0)
	page.Slot(b, 1)
	told(b)
	untouched(t, b, old)
}

func TestMadeAndStampedAreRight(t *testing.T) { // P4.9
	r := rand.New(rand.NewSource(4))
	for range 500 {
		slots, number, lsn := 1+r.Intn(8), r.Intn(16), r.Intn(api.MaxLsn+1)
		b, _ := page.Make(number, slots)
		wantCheck(t, b, number, slots, 0)
		b = stamp(t, noise(r, length(slots)), number, lsn)
		wantCheck(t, b, number, slots, lsn)
		if l, e := page.Lsn(b); l != lsn || e != api.OK {
			t.Errorf("Lsn of what Stamp gave: %d, %d, want %d", l, e, lsn)
		}
	}
}

func TestSlotsStayApart(t *testing.T) { // P4.9
	r := rand.New(rand.NewSource(5))
	slots := 8
	b := blank(slots)
	model := map[int]api.Entry{}
	for range 2000 {
		i := r.Intn(slots)
		if r.Intn(3) == 0 {
			b = free(t, b, i)
			delete(model, i)
		} else {
			x := api.Entry{Key: int(r.Uint32()), Value: r.Uint64()}
			b = fill(t, b, i, x)
			model[i] = x
		}
		var want []placed
		for i := range slots {
			x, there := model[i]
			wantSlot(t, b, i, x, there)
			if there {
				want = append(want, placed{i, x})
			}
		}
		wantPlaced(t, told(b), want)
	}
}

func TestEntriesTellsWhatSlotTells(t *testing.T) { // P4.9
	r := rand.New(rand.NewSource(6))
	for range 500 {
		slots := 1 + r.Intn(8)
		b := build(5, 1, someSlots(r, slots), 5)
		var want []placed
		for i := range slots {
			if x, there, _ := page.Slot(b, i); there {
				want = append(want, placed{i, x})
			}
		}
		wantPlaced(t, told(b), want)
	}
}

func TestTears(t *testing.T) { // P4.9
	r := rand.New(rand.NewSource(7))
	lsns := []int{0, 1, 2, 255, 256, 257, 1 << 32, 1<<32 + 1, 1 << 56, api.MaxLsn}
	for slots := 1; slots <= 8; slots++ {
		var pages [][]byte
		for _, lsn := range lsns {
			pages = append(pages, stamp(t, append(blank(1)[:16], append(someSlots(r, slots), blank(1)[:8]...)...), 3, lsn))
		}
		pages = append(pages, blank(slots))
		for _, one := range pages {
			for _, other := range pages {
				if l, m := binary.LittleEndian.Uint64(one), binary.LittleEndian.Uint64(other); l != m {
					tear(t, one, other, slots)
				}
			}
		}
	}
}

func tear(t *testing.T, one, other []byte, slots int) {
	t.Helper()
	for n := range len(one) + 1 {
		torn := append(bytes.Clone(one[:n]), other[n:]...)
		_, e := page.Check(torn, 3, slots)
		whole := bytes.Equal(torn, one) || bytes.Equal(torn, other)
		if whole != (e == api.OK) {
			t.Fatalf("%d bytes of % x, then those of % x: %d", n, one, other, e)
		}
	}
}

func TestTurnedBytes(t *testing.T) { // P4.9
	r := rand.New(rand.NewSource(8))
	for slots := 1; slots <= 8; slots++ {
		made, _ := page.Make(0, slots)
		for _, b := range [][]byte{made, stamp(t, noise(r, length(slots)), 0, 0), stamp(t, noise(r, length(slots)), 0, 77), stamp(t, blank(slots), 0, api.MaxLsn)} {
			for i := range b {
				for turn := 1; turn < 256; turn++ {
					b[i] ^= byte(turn)
					if _, e := page.Check(b, 0, slots); e != api.ErrPage && !bytes.Equal(b, blank(slots)) {
						t.Fatalf("byte %d turned by %d: %d", i, turn, e)
					}
					b[i] ^= byte(turn)
				}
			}
		}
	}
}
