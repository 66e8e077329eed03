package home_test

import (
	"bytes"
	"encoding/binary"
	"math"
	"math/rand"
	"testing"

	"tidemark/api"
	"tidemark/home"
	"tidemark/page"
)

// Keys at the edges of what Put takes, and beyond them.
var (
	keysThatMayBe    = []int{0, 1, 5, 255, 256, 1 << 20, 1<<31 - 1, 1 << 31, math.MaxUint32 - 1, math.MaxUint32}
	keysThatMayNotBe = []int{-1, -5, 1 << 32, 1<<32 + 5, 1<<33 + 5, math.MaxInt, math.MinInt, math.MinInt + 5}
)

// row lays a slot's bytes out by hand; first is 1 for a used slot, odd is what stands in the three bytes behind it.
func row(first, odd byte, key int, v uint64) []byte {
	b := []byte{first, odd, odd, odd}
	b = binary.LittleEndian.AppendUint32(b, uint32(key))
	return binary.LittleEndian.AppendUint64(b, v)
}

// holding gives a page of these slots; its stamps, number and sum are marks, no right ones: nobody here may ask for them or change them.
func holding(rows ...[]byte) []byte {
	b := bytes.Repeat([]byte{0xc3}, 16)
	for _, r := range rows {
		b = append(b, r...)
	}
	return append(b, bytes.Repeat([]byte{0x3c}, 8)...)
}

// with gives b with that row in the slot i.
func with(b []byte, i int, row []byte) []byte {
	c := bytes.Clone(b)
	copy(c[16+16*i:32+16*i], row)
	return c
}

func blank(slots int) []byte { return make([]byte, 24+16*slots) }

func freeRow() []byte { return make([]byte, 16) }

// isPage tells whether a page may have so many bytes.
func isPage(n int) bool { return n >= 40 && n <= 152 && (n-24)%16 == 0 }

// marked gives a copy of b in the midst of marks, ahead of it and in its spare room; the second answer looks whether all is as it was.
func marked(b []byte) ([]byte, func(t *testing.T)) {
	const room = 160
	whole := bytes.Repeat([]byte{0xa5}, room+len(b)+room)
	copy(whole[room:], b)
	was := bytes.Clone(whole)
	return whole[room : room+len(b)], func(t *testing.T) {
		t.Helper()
		if !bytes.Equal(whole, was) {
			t.Errorf("what was handed in was changed: % x, want % x", whole, was)
		}
	}
}

// scribble writes over a list and its spare room.
func scribble(b []byte) {
	b = b[:cap(b)]
	for i := range b {
		b[i] ^= 0xff
	}
}

func wantOf(t *testing.T, key, pages, keys, want int, e api.Errno) {
	t.Helper()
	if n, got := home.Of(key, pages, keys); n != want || got != e {
		t.Errorf("Of(%d, %d, %d): %d, %d, want %d, %d", key, pages, keys, n, got, want, e)
	}
}

// wantIn looks that Find and Value tell a key's slot and value.
func wantIn(t *testing.T, b []byte, key, slot int, v uint64) {
	t.Helper()
	c, look := marked(b)
	if i, there := home.Find(c, key); i != slot || !there {
		t.Errorf("Find(% x, %d): %d, %v, want %d, true", b, key, i, there, slot)
	}
	if x, there := home.Value(c, key); x != v || !there {
		t.Errorf("Value(% x, %d): %d, %v, want %d, true", b, key, x, there, v)
	}
	look(t)
}

// wantOut looks that neither Find, Value nor Delete tells of a key.
func wantOut(t *testing.T, b []byte, key int) {
	t.Helper()
	c, look := marked(b)
	if i, there := home.Find(c, key); i != 0 || there {
		t.Errorf("Find(% x, %d): %d, %v, want 0, false", b, key, i, there)
	}
	if x, there := home.Value(c, key); x != 0 || there {
		t.Errorf("Value(% x, %d): %d, %v, want 0, false", b, key, x, there)
	}
	if d, gone := home.Delete(c, key); len(d) != 0 || gone {
		t.Errorf("Delete(% x, %d): % x, %v, want none, false", b, key, d, gone)
	}
	look(t)
}

func wantPut(t *testing.T, b []byte, key int, v uint64, want []byte) []byte {
	t.Helper()
	c, look := marked(b)
	got, e := home.Put(c, key, v)
	wantNew(t, got, want, e == api.OK)
	look(t)
	return want
}

func wantDelete(t *testing.T, b []byte, key int, want []byte) []byte {
	t.Helper()
	c, look := marked(b)
	got, gone := home.Delete(c, key)
	wantNew(t, got, want, gone)
	look(t)
	return want
}

// wantNew looks at an answer, and then writes over it, so that it is found out if it shares memory.
func wantNew(t *testing.T, got, want []byte, ok bool) {
	t.Helper()
	if !ok || !bytes.Equal(got, want) {
		t.Errorf("% x, %v, want % x", got, ok, want)
	}
	scribble(got)
}

func refusePut(t *testing.T, b []byte, key int, want api.Errno) {
	t.Helper()
	c, look := marked(b)
	if got, e := home.Put(c, key, 9); len(got) != 0 || e != want {
		t.Errorf("Put(% x, %d): % x, %d, want none, %d", b, key, got, e, want)
	}
	look(t)
}

func TestOf(t *testing.T) { // P5.1
	for pages := 1; pages <= 16; pages++ {
		for key := range 100 {
			wantOf(t, key, pages, 100, key%pages, api.OK)
		}
		wantOf(t, 0, pages, 1, 0, api.OK)
		wantOf(t, api.MaxKeys-1, pages, api.MaxKeys, (api.MaxKeys-1)%pages, api.OK)
	}
	wantOf(t, 7, 4, 100, 3, api.OK)
	wantOf(t, 1048575, 16, 1048576, 15, api.OK)
}

func TestOfRefusesPages(t *testing.T) { // P5.1
	for _, pages := range []int{0, -1, -4, 17, 18, 1 << 40, math.MaxInt, math.MinInt} {
		// Wrong keys beside do not come first.
		for _, c := range [][2]int{{1, 100}, {-1, 100}, {100, 100}, {1, 0}, {1, api.MaxKeys + 1}, {math.MinInt, math.MaxInt}} {
			wantOf(t, c[0], pages, c[1], 0, api.ErrPage)
		}
	}
}

func TestOfRefusesKeys(t *testing.T) { // P5.1
	for _, c := range [][2]int{
		{100, 100}, {101, 100}, {-1, 100}, {-100, 100}, {1, 1}, {math.MaxInt, 100}, {math.MinInt, 100},
		{0, 0}, {1, 0}, {-1, 0}, {0, -1}, {-1, -1}, {-2, -1}, {0, math.MinInt},
		{1, api.MaxKeys + 1}, {0, api.MaxKeys + 1}, {0, math.MaxInt}, {api.MaxKeys, api.MaxKeys}, {api.MaxKeys, api.MaxKeys + 1},
	} {
		for _, pages := range []int{1, 4, 16} {
			wantOf(t, c[0], pages, c[1], 0, api.ErrKey)
		}
	}
}

func TestFindAndValue(t *testing.T) { // P5.2
	for slots := 1; slots <= 8; slots++ {
		for i := range slots {
			for _, key := range keysThatMayBe {
				b := holding(rowsFrom(1000, slots)...)
				wantOut(t, b, key)
				wantIn(t, with(b, i, row(1, 0, key, 0)), key, i, 0)
				wantIn(t, with(b, i, row(1, 0xee, key, 0x0807060504030201)), key, i, 0x0807060504030201)
				wantIn(t, with(b, i, row(1, 0, key, math.MaxUint64)), key, i, math.MaxUint64)
			}
		}
	}
}

// rowsFrom gives so many used slots with the keys key, key + 1 ..
func rowsFrom(key, slots int) [][]byte {
	var out [][]byte
	for i := range slots {
		out = append(out, row(1, 0, key+i, uint64(70+i)))
	}
	return out
}

func TestFindPassesOverUnusedSlots(t *testing.T) { // P5.2, P5.4
	wantOut(t, blank(1), 0)
	wantOut(t, blank(8), 0)
	for _, first := range []byte{0, 2, 3, 0x11, 0x80, 0xff} {
		b := holding(row(first, 0, 5, 9), row(first, 1, 0, 9))
		wantOut(t, b, 5)
		wantOut(t, b, 0)
		b = holding(row(first, 0, 5, 9), row(1, 0, 5, 8))
		wantIn(t, b, 5, 1, 8)
		wantDelete(t, b, 5, with(b, 1, freeRow()))
	}
}

func TestFindOfKeysThatMayNotBe(t *testing.T) { // P5.2, P5.4
	// The lowest four bytes of such a key may stand in a slot.
	for _, key := range keysThatMayNotBe {
		wantOut(t, holding(row(1, 0, key, 9), row(0, 0, key, 9)), key)
		wantOut(t, blank(2), key)
	}
}

func TestNoPageBytes(t *testing.T) { // P5.2, P5.3, P5.4
	for n := range 200 {
		if isPage(n) {
			continue
		}
		b := bytes.Repeat(row(1, 0, 5, 9), 13)[:n]
		wantOut(t, b, 5)
		wantOut(t, b, -1)
		refusePut(t, b, 5, api.ErrPage)
		for _, key := range keysThatMayNotBe {
			refusePut(t, b, key, api.ErrPage)
		}
	}
	wantOut(t, nil, 5)
	wantOut(t, holding(rowsFrom(5, 9)...), 5)
	refusePut(t, nil, 5, api.ErrPage)
	refusePut(t, blank(9), 5, api.ErrPage)
	refusePut(t, holding(rowsFrom(5, 9)...), 5, api.ErrPage)
}

func TestPutFills(t *testing.T) { // P5.3
	for slots := 1; slots <= 8; slots++ {
		for i := range slots {
			for _, key := range keysThatMayBe {
				for _, v := range []uint64{0, 9, math.MaxUint64} {
					// All ahead of slot i are used, slot i is free, and so is the last one.
					rows := rowsFrom(1000, slots)
					rows[i], rows[slots-1] = freeRow(), freeRow()
					b := holding(rows...)
					wantPut(t, b, key, v, with(b, i, row(1, 0, key, v)))
				}
			}
		}
	}
}

func TestPutFillsWhatIsNotUsed(t *testing.T) { // P5.3
	for _, first := range []byte{0, 2, 0x80, 0xff} {
		b := holding(row(1, 7, 6, 1), row(first, 7, 5, 8), row(0, 0, 0, 0))
		wantPut(t, b, 5, 9, with(b, 1, row(1, 0, 5, 9)))
		wantPut(t, b, 7, 9, with(b, 1, row(1, 0, 7, 9)))
	}
}

func TestPutLaysAnotherValue(t *testing.T) { // P5.3
	for slots := 1; slots <= 8; slots++ {
		for i := range slots {
			b := holding(rowsFrom(1000, slots)...)
			// A free slot ahead of the key's does not matter; nor do the three bytes, which become 0.
			free := with(with(b, 0, freeRow()), i, row(1, 0xee, 5, 8))
			wantPut(t, free, 5, 9, with(free, i, row(1, 0, 5, 9)))
			full := with(b, i, row(1, 0xee, 5, 8))
			wantPut(t, full, 5, 9, with(full, i, row(1, 0, 5, 9)))
			wantPut(t, full, 5, 8, with(full, i, row(1, 0, 5, 8)))
		}
	}
}

func TestPutRefusesWhatIsFull(t *testing.T) { // P5.3
	for slots := 1; slots <= 8; slots++ {
		b := holding(rowsFrom(1000, slots)...)
		for _, key := range keysThatMayBe {
			refusePut(t, b, key, api.ErrFull)
		}
		refusePut(t, b, 999, api.ErrFull)
		refusePut(t, b, 1000+slots, api.ErrFull)
	}
}

func TestPutRefusesKeys(t *testing.T) { // P5.3
	for slots := 1; slots <= 8; slots++ {
		for _, key := range keysThatMayNotBe {
			refusePut(t, blank(slots), key, api.ErrKey)
			refusePut(t, holding(rowsFrom(1000, slots)...), key, api.ErrKey)
			refusePut(t, holding(rowsFrom(key, slots)...), key, api.ErrKey)
		}
	}
}

func TestPutLeavesStampsAndSum(t *testing.T) { // P5.3, P5.4
	right, _ := page.Make(2, 2)
	right, _ = page.Stamp(right, 2, 77)
	b := wantPut(t, right, 5, 9, with(right, 0, row(1, 0, 5, 9)))
	if _, e := page.Check(b, 2, 2); e != api.ErrPage {
		t.Errorf("Check of what was put, the sum as it was: %d, want ErrPage", e)
	}
	b = wantDelete(t, b, 5, right)
	if lsn, e := page.Check(b, 2, 2); lsn != 77 || e != api.OK {
		t.Errorf("Check of what was put and deleted: %d, %d, want 77, OK", lsn, e)
	}
}

func TestDelete(t *testing.T) { // P5.4
	for slots := 1; slots <= 8; slots++ {
		for i := range slots {
			for _, key := range keysThatMayBe {
				b := with(holding(rowsFrom(1000, slots)...), i, row(1, 0xee, key, math.MaxUint64))
				gone := wantDelete(t, b, key, with(b, i, freeRow()))
				wantOut(t, gone, key)
			}
		}
	}
}

func TestExample(t *testing.T) { // P5.2, P5.3, P5.4
	b := wantPut(t, blank(2), 5, 9, with(blank(2), 0, row(1, 0, 5, 9)))
	b = wantPut(t, b, 6, 1, with(b, 1, row(1, 0, 6, 1)))
	refusePut(t, b, 7, api.ErrFull)
	refusePut(t, b, -1, api.ErrKey)
	refusePut(t, b, 1<<32, api.ErrKey)
	b = wantPut(t, b, 5, 2, with(b, 0, row(1, 0, 5, 2)))
	wantIn(t, b, 6, 1, 1)
	wantOut(t, b, 7)
	wantOut(t, b, 9)
	b = wantDelete(t, b, 5, with(b, 0, freeRow()))
	wantPut(t, b, 7, 1, with(b, 0, row(1, 0, 7, 1)))
	refusePut(t, make([]byte, 41), -1, api.ErrPage)
}

func TestKeyTwice(t *testing.T) { // P5.2, P5.3, P5.4
	b := holding(row(1, 7, 5, 1), row(1, 7, 5, 2))
	wantIn(t, b, 5, 0, 1)
	wantPut(t, b, 5, 3, with(b, 0, row(1, 0, 5, 3)))
	b = wantDelete(t, b, 5, with(b, 0, freeRow()))
	wantIn(t, b, 5, 1, 2)
	// The free slot is the lower one, but the key has a slot.
	wantPut(t, b, 5, 3, with(b, 1, row(1, 0, 5, 3)))
	wantDelete(t, b, 5, with(b, 1, freeRow()))
}

// model is a page's slots as plain things: the key that each has, and whether it has one.
type model struct {
	keys  [8]int
	vals  [8]uint64
	taken [8]bool
	slots int
}

// slot tells the first slot that is taken just if taken is true, and then by that key.
func (m *model) slot(taken bool, key int) int {
	for i := range m.slots {
		if m.taken[i] == taken && (!taken || m.keys[i] == key) {
			return i
		}
	}
	return -1
}

// put tells where a key goes: -1, if nowhere.
func (m *model) put(key int, v uint64) int {
	i := m.slot(true, key)
	if i < 0 {
		i = m.slot(false, key)
	}
	if i >= 0 {
		m.keys[i], m.vals[i], m.taken[i] = key, v, true
	}
	return i
}

func TestPutsAndDeletes(t *testing.T) { // P5.5
	r := rand.New(rand.NewSource(1))
	for slots := 1; slots <= 8; slots++ {
		b, m := blank(slots), &model{slots: slots}
		for range 1500 {
			key, v := r.Intn(slots+3), r.Uint64()
			if r.Intn(3) == 0 {
				if i := m.slot(true, key); i < 0 {
					wantOut(t, b, key)
				} else {
					m.taken[i] = false
					b = wantDelete(t, b, key, with(b, i, freeRow()))
				}
			} else if i := m.put(key, v); i < 0 {
				refusePut(t, b, key, api.ErrFull)
			} else {
				b = wantPut(t, b, key, v, with(b, i, row(1, 0, key, v)))
			}
			wantModel(t, b, m)
		}
	}
}

// wantModel looks that each key has the slot and the value that the model tells, and no key two.
func wantModel(t *testing.T, b []byte, m *model) {
	t.Helper()
	for key := range m.slots + 3 {
		if i := m.slot(true, key); i < 0 {
			wantOut(t, b, key)
		} else {
			wantIn(t, b, key, i, m.vals[i])
		}
	}
	seen := map[int]int{}
	for _, x := range page.Entries(b) {
		if seen[x.Key]++; seen[x.Key] > 1 {
			t.Fatalf("the key %d twice: % x", x.Key, b)
		}
	}
}

func TestDeleteGivesBackWhatWasThere(t *testing.T) { // P5.5
	r := rand.New(rand.NewSource(2))
	for range 500 {
		slots := 1 + r.Intn(8)
		rows := rowsFrom(1000, slots)
		for i := range rows {
			if r.Intn(2) == 0 {
				rows[i] = freeRow()
			}
		}
		rows[r.Intn(slots)] = freeRow()
		b := holding(rows...)
		c, e := home.Put(b, 5, r.Uint64())
		if e != api.OK {
			t.Fatalf("Put(% x, 5): %d", b, e)
		}
		wantDelete(t, c, 5, b)
	}
}

func TestHomes(t *testing.T) { // P5.5
	for pages := 1; pages <= 16; pages++ {
		count := make([]int, pages)
		for key := range 16 * pages {
			n, e := home.Of(key, pages, api.MaxKeys)
			if e != api.OK || n < 0 || n >= pages {
				t.Fatalf("Of(%d, %d): %d, %d", key, pages, n, e)
			}
			count[n]++
			// How many keys there may be does not move a key, and the next key of this home is so many keys on.
			wantOf(t, key, pages, key+1, n, api.OK)
			wantOf(t, key+pages, pages, api.MaxKeys, n, api.OK)
		}
		for n, c := range count {
			if c != 16 {
				t.Errorf("of %d pages the page %d is the home of %d keys, want 16", pages, n, c)
			}
		}
	}
}
