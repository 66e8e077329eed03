package master_test

import (
	"bytes"
	"encoding/binary"
	"hash/crc32"
	"math"
	"math/rand"
	"testing"

	"tidemark/api"
	"tidemark/disk"
	"tidemark/master"
)

// State is short for the long name.
type State = master.State

// small is the shape of the disks here.
var small = api.Shape{Pages: 1, Slots: 1, Log: 1024}

// most is the greatest number that may be.
const most = 1 << 60

// build lays a master out by hand, with the library's sum; last is what stands in the turn's second place.
func build(turn, base, check uint64, zeros uint32, last uint64) []byte {
	var b []byte
	for _, x := range []uint64{turn, base, check} {
		b = binary.LittleEndian.AppendUint64(b, x)
	}
	b = binary.LittleEndian.AppendUint32(b, zeros)
	b = binary.LittleEndian.AppendUint32(b, crc32.ChecksumIEEE(b))
	return binary.LittleEndian.AppendUint64(b, last)
}

// right lays out the bytes of a State that may be written.
func right(s State) []byte {
	return build(uint64(s.Turn), uint64(s.Base), uint64(s.Check), 0, uint64(s.Turn))
}

// written gives States that may be written, the edges among them.
func written() []State {
	var out []State
	for _, turn := range []int{1, 2, 255, 256, 257, 1 << 32, 1<<56 + 1, most - 1, most} {
		for _, base := range []int{0, 1, 258, 1 << 40, most - 1, most} {
			for _, check := range []int{0, 9, 1<<24 - 1, most} {
				out = append(out, State{turn, base, check})
			}
		}
	}
	return out
}

// unwritten gives States that may not be written.
func unwritten() []State {
	out := []State{{}, {0, 5, 5}}
	for _, n := range []int{-1, -2, -most, most + 1, most + 2, 1 << 61, 1 << 62, math.MaxInt, math.MinInt} {
		out = append(out, State{n, 0, 0}, State{1, n, 0}, State{1, 0, n}, State{n, n, n}, State{most, most, n}, State{most, n, most})
	}
	return out
}

func wantParse(t *testing.T, b []byte, want State, ok bool) {
	t.Helper()
	if s, there := master.Parse(b); s != want || there != ok {
		t.Errorf("Parse(% x): %v, %v, want %v, %v", b, s, there, want, ok)
	}
}

func refuseParse(t *testing.T, b []byte) {
	t.Helper()
	wantParse(t, b, State{}, false)
}

// holding gives a disk with these bytes in its masters, and marks at all other places.
func holding(t *testing.T, zero, one []byte) *disk.Disk {
	t.Helper()
	m := api.Image{
		Pages:   [][]byte{bytes.Repeat([]byte{0x11}, 40)},
		Pair:    bytes.Repeat([]byte{0x22}, 56),
		Log:     bytes.Repeat([]byte{0x33}, 100),
		Masters: [2][]byte{zero, one},
	}
	d, e := disk.Load(small, m)
	if e != api.OK {
		t.Fatalf("Load: %d", e)
	}
	return d
}

func fresh(t *testing.T) *disk.Disk {
	t.Helper()
	return holding(t, make([]byte, 40), make([]byte, 40))
}

func sameImage(a, b api.Image) bool {
	same := len(a.Pages) == len(b.Pages) && bytes.Equal(a.Pair, b.Pair) && bytes.Equal(a.Log, b.Log)
	for i := range a.Pages {
		same = same && bytes.Equal(a.Pages[i], b.Pages[i])
	}
	for k := range a.Masters {
		same = same && bytes.Equal(a.Masters[k], b.Masters[k])
	}
	return same
}

// wantNewest looks at what Newest answers, that it takes two acts, and that it changes nothing.
func wantNewest(t *testing.T, what string, d *disk.Disk, want State, there bool) {
	t.Helper()
	acts, image, lasts := d.Acts(), d.Image(), d.Lasts()
	if s, ok, e := master.Newest(d); s != want || ok != there || e != api.OK {
		t.Errorf("%s: Newest: %v, %v, %d, want %v, %v, OK", what, s, ok, e, want, there)
	}
	if d.Acts() != acts+2 {
		t.Errorf("%s: Newest took %d acts, want 2", what, d.Acts()-acts)
	}
	if !sameImage(d.Image(), image) || !sameImage(d.Lasts(), lasts) {
		t.Errorf("%s: Newest changed the disk", what)
	}
}

// newest gives what Newest answers on a disk that is not dead.
func newest(t *testing.T, d *disk.Disk) State {
	t.Helper()
	s, ok, e := master.Newest(d)
	if e != api.OK || ok != (s != State{}) {
		t.Fatalf("Newest: %v, %v, %d", s, ok, e)
	}
	return s
}

func wantNext(t *testing.T, d *disk.Disk, s State) State {
	t.Helper()
	want := State{s.Turn + 1, s.Base, s.Check}
	if n, e := master.Next(d, s); n != want || e != api.OK {
		t.Fatalf("Next(%v): %v, %d, want %v, OK", s, n, e, want)
	}
	return want
}

func wantDead(t *testing.T, d *disk.Disk, s State) {
	t.Helper()
	if n, e := master.Next(d, s); n != (State{}) || e != api.ErrDead {
		t.Errorf("Next(%v) of a dead disk: %v, %d, want none, ErrDead", s, n, e)
	}
	if n, ok, e := master.Newest(d); n != (State{}) || ok || e != api.ErrDead {
		t.Errorf("Newest of a dead disk: %v, %v, %d, want none, ErrDead", n, ok, e)
	}
}

func TestBytes(t *testing.T) { // P7.1
	for _, s := range written() {
		if b, e := master.Bytes(s); !bytes.Equal(b, right(s)) || e != api.OK {
			t.Errorf("Bytes(%v): % x, %d, want % x, OK", s, b, e, right(s))
		}
	}
}

func TestBytesByHand(t *testing.T) { // P7.1
	b, e := master.Bytes(State{1, 0, 0})
	want := []byte{0: 1, 32: 1, 39: 0}
	binary.LittleEndian.PutUint32(want[28:], crc32.ChecksumIEEE(want[:28]))
	if !bytes.Equal(b, want) || e != api.OK {
		t.Errorf("Bytes({1 0 0}): % x, %d, want % x", b, e, want)
	}
	b, e = master.Bytes(State{0x0102030405060708, 0x0807060504030201, 0x0a0b0c0d0e0f0102})
	want = []byte{8, 7, 6, 5, 4, 3, 2, 1, 1, 2, 3, 4, 5, 6, 7, 8, 2, 1, 15, 14, 13, 12, 11, 10, 0, 0, 0, 0}
	want = binary.LittleEndian.AppendUint32(want, crc32.ChecksumIEEE(want))
	want = append(want, 8, 7, 6, 5, 4, 3, 2, 1)
	if !bytes.Equal(b, want) || e != api.OK {
		t.Errorf("Bytes of three unlike numbers: % x, %d, want % x", b, e, want)
	}
}

func TestBytesRefuses(t *testing.T) { // P7.1
	for _, s := range unwritten() {
		if b, e := master.Bytes(s); len(b) != 0 || e != api.ErrRange {
			t.Errorf("Bytes(%v): % x, %d, want none, ErrRange", s, b, e)
		}
	}
}

func TestParse(t *testing.T) { // P7.2
	for _, s := range written() {
		wantParse(t, right(s), s, true)
		b, e := master.Bytes(s)
		if e != api.OK {
			t.Fatalf("Bytes(%v): %d", s, e)
		}
		wantParse(t, b, s, true)
	}
	// What stands in the spare room plays no part.
	wantParse(t, append(right(State{5, 7, 0}), 1)[:40], State{5, 7, 0}, true)
}

func TestParseThereAndBack(t *testing.T) { // P7.2
	r := rand.New(rand.NewSource(1))
	for range 2000 {
		s := State{1 + r.Intn(most)>>r.Intn(60), r.Intn(most+1) >> r.Intn(60), r.Intn(most+1) >> r.Intn(60)}
		b, e := master.Bytes(s)
		if e != api.OK {
			t.Fatalf("Bytes(%v): %d", s, e)
		}
		wantParse(t, b, s, true)
	}
}

func TestParseRefusesLengths(t *testing.T) { // P7.2
	long := append(right(State{5, 7, 3}), right(State{5, 7, 3})...)
	for n := range len(long) + 1 {
		if n != 40 {
			refuseParse(t, long[:n])
		}
		refuseParse(t, make([]byte, n))
	}
	refuseParse(t, nil)
	refuseParse(t, long[1:41])
	// A longer one whose last 8 bytes are the turn, as those of a right one.
	refuseParse(t, append(right(State{5, 7, 3}), 5, 0, 0, 0, 0, 0, 0, 0))
}

func TestParseRefusesBytes(t *testing.T) { // P7.2
	for _, s := range []State{{5, 7, 0}, {1, 0, 0}, {257, 1 << 40, 99}, {most, most, most}} {
		for i := range 40 {
			for x := 1; x < 256; x++ {
				b := right(s)
				b[i] ^= byte(x)
				refuseParse(t, b)
			}
		}
	}
}

func TestParseRefusesTurns(t *testing.T) { // P7.2
	for _, c := range [][2]uint64{
		{5, 6}, {6, 5}, {5, 0}, {0, 5}, {1, 1 << 56}, {1, 257}, {257, 1}, {most, 0}, {5, 5 + 1<<32}, {5, 5 + 1<<60}, {5, 5 + 1<<63},
	} {
		refuseParse(t, build(c[0], 7, 3, 0, c[1]))
	}
	// The turn's second place with the highest byte first.
	refuseParse(t, build(5, 7, 3, 0, 5<<56))
}

func TestParseRefusesNumbers(t *testing.T) { // P7.2
	refuseParse(t, build(0, 0, 0, 0, 0))
	refuseParse(t, build(0, 7, 3, 0, 0))
	for _, x := range []uint64{most + 1, most + 2, 1 << 61, 1 << 62, 1<<63 - 1, 1 << 63, 1<<63 + 5, math.MaxUint64} {
		refuseParse(t, build(x, 7, 3, 0, x))
		refuseParse(t, build(5, x, 3, 0, 5))
		refuseParse(t, build(5, 7, x, 0, 5))
	}
}

func TestParseRefusesZeros(t *testing.T) { // P7.2
	for _, x := range []uint32{1, 255, 1 << 8, 1 << 16, 1 << 24, 1 << 31, math.MaxUint32} {
		refuseParse(t, build(5, 7, 3, x, 5))
	}
}

func TestParseRefusesSums(t *testing.T) { // P7.2
	for _, rows := range [][2]int{{0, 24}, {0, 27}, {1, 28}, {0, 40}, {0, 32}, {0, 0}} {
		b := right(State{5, 7, 3})
		binary.LittleEndian.PutUint32(b[28:], crc32.ChecksumIEEE(b[rows[0]:rows[1]]))
		refuseParse(t, b)
	}
	b := right(State{5, 7, 3})
	binary.BigEndian.PutUint32(b[28:], binary.LittleEndian.Uint32(b[28:]))
	refuseParse(t, b)
	b = right(State{5, 7, 3})
	copy(b[28:], []byte{0, 0, 0, 0})
	refuseParse(t, b)
	// Another State's sum.
	b = right(State{5, 7, 3})
	copy(b[28:32], right(State{5, 7, 4})[28:32])
	refuseParse(t, b)
}

func TestNewest(t *testing.T) { // P7.3
	zeros, torn := make([]byte, 40), right(State{4, 0, 0})
	torn[39] = 1
	for _, c := range []struct {
		name      string
		zero, one []byte
		want      State
	}{
		{"zeros", zeros, zeros, State{}},
		{"one alone", zeros, right(State{1, 2, 3}), State{1, 2, 3}},
		{"zero alone", right(State{2, 9, 4}), zeros, State{2, 9, 4}},
		{"zero greater", right(State{2, 9, 4}), right(State{1, 8, 7}), State{2, 9, 4}},
		{"one greater", right(State{2, 9, 4}), right(State{3, 8, 7}), State{3, 8, 7}},
		{"zero far greater", right(State{256, 0, 0}), right(State{255, 9, 9}), State{256, 0, 0}},
		{"one far greater", right(State{2, 9, 9}), right(State{1<<40 + 1, 0, 0}), State{1<<40 + 1, 0, 0}},
		{"the greatest", right(State{most, 0, 0}), right(State{most - 1, 9, 9}), State{most, 0, 0}},
		{"zero torn", torn, right(State{3, 8, 7}), State{3, 8, 7}},
		{"zero torn alone", torn, zeros, State{}},
		{"even in one", zeros, right(State{2, 0, 0}), State{}},
		{"odd in zero", right(State{1, 0, 0}), zeros, State{}},
		{"greater even in one", right(State{2, 9, 4}), right(State{8, 0, 0}), State{2, 9, 4}},
		{"greater odd in zero", right(State{9, 0, 0}), right(State{3, 9, 4}), State{3, 9, 4}},
		{"one at both", right(State{3, 1, 1}), right(State{3, 1, 1}), State{3, 1, 1}},
		{"each at the other's", right(State{3, 1, 1}), right(State{2, 1, 1}), State{}},
		{"noise", bytes.Repeat([]byte{0xff}, 40), bytes.Repeat([]byte{0x5a}, 40), State{}},
	} {
		d := holding(t, c.zero, c.one)
		wantNewest(t, c.name, d, c.want, c.want != State{})
		wantNewest(t, c.name+" again", d, c.want, c.want != State{})
	}
}

func TestNewestReadsWhatIsLoose(t *testing.T) { // P7.3
	d := holding(t, right(State{2, 9, 4}), right(State{1, 8, 7}))
	d.WriteMaster(1, right(State{3, 5, 5}))
	wantNewest(t, "a loose one", d, State{3, 5, 5}, true)
	wantNewest(t, "lost", d.Crash(api.Choice{}), State{2, 9, 4}, true)
}

func TestNewestOfADeadDisk(t *testing.T) { // P7.3
	for stop := 1; stop <= 2; stop++ {
		d := holding(t, right(State{2, 9, 4}), right(State{1, 8, 7}))
		d.Stop(stop)
		if s, ok, e := master.Newest(d); s != (State{}) || ok || e != api.ErrDead {
			t.Errorf("Newest stopped at %d: %v, %v, %d, want none, ErrDead", stop, s, ok, e)
		}
		if d.Acts() != stop-1 {
			t.Errorf("Newest stopped at %d: %d acts", stop, d.Acts())
		}
		wantDead(t, d, State{2, 9, 4})
	}
	d := holding(t, right(State{2, 9, 4}), right(State{1, 8, 7}))
	d.Stop(3)
	wantNewest(t, "stopped behind it", d, State{2, 9, 4}, true)
	wantDead(t, d, State{2, 9, 4})
}

func TestNext(t *testing.T) { // P7.4
	for _, s := range []State{
		{}, {0, 5, 6}, {1, 9, 4}, {2, 9, 0}, {254, 0, 0}, {255, 1, 1}, {256, most, most}, {1 << 40, 0, most}, {most - 2, 1, 2}, {most - 1, most, 0},
	} {
		d := holding(t, bytes.Repeat([]byte{0x66}, 40), bytes.Repeat([]byte{0x77}, 40))
		want := d.Image()
		n := wantNext(t, d, s)
		want.Masters[n.Turn%2] = right(n)
		if !sameImage(d.Image(), want) || !sameImage(d.Lasts(), want) {
			t.Errorf("Next(%v): %x lasts, want %x", s, d.Lasts(), want)
		}
		if !sameImage(d.Crash(api.Choice{}).Lasts(), want) {
			t.Errorf("Next(%v): what a crash leaves is not what was synced", s)
		}
		if d.Acts() != 2 {
			t.Errorf("Next(%v): %d acts, want 2", s, d.Acts())
		}
		wantNewest(t, "behind Next", d, n, true)
	}
}

// What is not a master's is left as it is: it is loose still.
func TestNextSyncsMastersAlone(t *testing.T) { // P7.4
	d := fresh(t)
	was := d.Lasts()
	d.WritePage(0, bytes.Repeat([]byte{0x44}, 40))
	d.WritePair(bytes.Repeat([]byte{0x55}, 56))
	d.Append([]byte{1, 2, 3})
	n := wantNext(t, d, State{2, 9, 4})
	was.Masters[1] = right(n)
	if !sameImage(d.Lasts(), was) {
		t.Errorf("behind Next: %x lasts, want %x", d.Lasts(), was)
	}
	m := d.Image()
	if m.Pages[0][0] != 0x44 || m.Pair[0] != 0x55 || len(m.Log) != 103 {
		t.Errorf("behind Next: %x is read", m)
	}
}

func TestNextRefuses(t *testing.T) { // P7.4
	refused := []State{{-1, 0, 0}, {-2, 0, 0}, {-most, 5, 5}, {most, 0, 0}, {most + 1, 0, 0}, {math.MaxInt, 0, 0}, {math.MaxInt - 1, 0, 0}, {math.MinInt, 0, 0}, {math.MinInt + 1, 1, 1}}
	for _, n := range []int{-1, -most, most + 1, math.MaxInt, math.MinInt} {
		refused = append(refused, State{0, n, 0}, State{0, 0, n}, State{1, n, n}, State{most - 1, most, n}, State{-1, n, n})
	}
	for _, s := range refused {
		d := holding(t, right(State{2, 9, 4}), right(State{1, 8, 7}))
		was := d.Image()
		if n, e := master.Next(d, s); n != (State{}) || e != api.ErrRange {
			t.Errorf("Next(%v): %v, %d, want none, ErrRange", s, n, e)
		}
		if d.Acts() != 0 || !sameImage(d.Image(), was) || !sameImage(d.Lasts(), was) {
			t.Errorf("Next(%v): refused, with %d acts", s, d.Acts())
		}
		// Ahead of any act: the disk is not asked, so that it does not die, and may be dead.
		d.Stop(1)
		if n, e := master.Next(d, s); n != (State{}) || e != api.ErrRange || d.Dead() {
			t.Errorf("Next(%v) of a stopped disk: %v, %d, dead %v, want none, ErrRange, false", s, n, e, d.Dead())
		}
		d.Sync()
		if n, e := master.Next(d, s); n != (State{}) || e != api.ErrRange || !d.Dead() {
			t.Errorf("Next(%v) of a dead disk: %v, %d, dead %v, want none, ErrRange, true", s, n, e, d.Dead())
		}
	}
}

func TestNextCut(t *testing.T) { // P7.4
	for stop := 1; stop <= 2; stop++ {
		d := holding(t, right(State{2, 9, 4}), right(State{1, 8, 7}))
		was := d.Lasts()
		d.Stop(stop)
		wantDead(t, d, State{2, 9, 8})
		if d.Acts() != stop-1 || !sameImage(d.Lasts(), was) {
			t.Errorf("Next stopped at %d: %d acts, %x lasts, want %x", stop, d.Acts(), d.Lasts(), was)
		}
		if stop == 2 {
			was.Masters[1] = right(State{3, 9, 8})
		}
		if !sameImage(d.Image(), was) {
			t.Errorf("Next stopped at %d: %x is read, want %x", stop, d.Image(), was)
		}
	}
	d := fresh(t)
	d.Stop(3)
	wantNext(t, d, State{})
	wantDead(t, d, State{1, 0, 0})
}

func TestExamples(t *testing.T) { // P7.3, P7.4, P7.5
	d, e := disk.New(small)
	if e != api.OK {
		t.Fatal(e)
	}
	wantNewest(t, "a new disk", d, State{}, false)
	wantNext(t, d, State{})
	wantParse(t, d.Lasts().Masters[1], State{1, 0, 0}, true)
	wantNext(t, d, State{1, 9, 4})
	wantParse(t, d.Lasts().Masters[0], State{2, 9, 4}, true)
	wantNewest(t, "behind two", d, State{2, 9, 4}, true)
	cut := d.Copy()
	wantNext(t, d, State{2, 9, 0})
	wantParse(t, d.Lasts().Masters[1], State{3, 9, 0}, true)
	wantNewest(t, "behind three", d, State{3, 9, 0}, true)
	cut.Stop(2)
	wantDead(t, cut, State{2, 9, 8})
	wantNewest(t, "lost", cut.Crash(api.Choice{}), State{2, 9, 4}, true)
	wantNewest(t, "torn behind 20 bytes", cut.Crash(api.Choice{Keep: []int{21}}), State{2, 9, 4}, true)
	wantNewest(t, "kept", cut.Crash(api.Choice{Keep: []int{1}}), State{3, 9, 8}, true)
}

// Whatever stood in the masters: what Next wrote is the newest then, and stays so behind a crash.
func TestNextIsNewest(t *testing.T) { // P7.5
	r := rand.New(rand.NewSource(2))
	zeros, noise := make([]byte, 40), bytes.Repeat([]byte{0xa7}, 40)
	all := [][]byte{zeros, noise, right(State{1, 2, 3}), right(State{2, 2, 3}), right(State{most - 1, 2, 3}), right(State{most - 2, 2, 3}), right(State{255, 0, 0}), right(State{256, 0, 0})}
	for _, zero := range all {
		for _, one := range all {
			d := holding(t, zero, one)
			for range 6 {
				s := newest(t, d)
				if s.Turn == most {
					break
				}
				n := wantNext(t, d, State{s.Turn, r.Intn(most), r.Intn(1000)})
				wantNewest(t, "behind Next", d, n, true)
				wantNewest(t, "behind a crash", d.Crash(api.Choice{Log: 5, Keep: []int{7}}), n, true)
			}
		}
	}
}

// start is what stands in the masters ahead of a Next: what Newest answers is in the one, and the other is what Next writes.
type start struct {
	newest State
	other  []byte
}

// starts gives zeros and right ones of other turns, where the turns' bytes part in one byte, in several, and in all.
func starts() []start {
	zeros := make([]byte, 40)
	out := []start{{State{}, zeros}}
	for _, s := range []State{{1, 0, 0}, {2, 9, 4}, {255, 300, 0}, {256, 300, 299}, {511, 1, 1}, {65535, 9, 9}, {1<<32 - 1, 5, 5}, {1<<56 - 1, 1 << 50, 7}, {most - 1, most, most}} {
		out = append(out, start{s, zeros})
		for _, less := range []int{1, 3, 253, 255, 257, 65535, 1<<40 + 1} {
			if s.Turn > less {
				out = append(out, start{s, right(State{s.Turn - less, s.Base / 2, s.Check / 3})})
			}
		}
	}
	return out
}

func (x start) disk(t *testing.T) *disk.Disk {
	t.Helper()
	both := [2][]byte{}
	both[(x.newest.Turn+1)%2] = x.other
	both[x.newest.Turn%2] = make([]byte, 40)
	if x.newest != (State{}) {
		both[x.newest.Turn%2] = right(x.newest)
	}
	return holding(t, both[0], both[1])
}

// afterCut does a Next that is cut at that act, and gives the disk that a crash leaves; it looks that Newest answers what was there or what was written.
func afterCut(t *testing.T, d *disk.Disk, s State, stop, keep int) (*disk.Disk, State) {
	t.Helper()
	was, n := newest(t, d), State{s.Turn + 1, s.Base, s.Check}
	c := d.Copy()
	c.Stop(stop)
	if n, e := master.Next(c, s); n != (State{}) || e != api.ErrDead {
		t.Fatalf("Next(%v) cut at %d: %v, %d, want none, ErrDead", s, stop, n, e)
	}
	left := c.Crash(api.Choice{Keep: []int{keep}})
	now := newest(t, left)
	if now != was && now != n {
		t.Fatalf("%v, then Next(%v) cut at %d, kept %d: %v", was, s, stop, keep, now)
	}
	if stop == 1 && now != was {
		t.Fatalf("%v, then Next(%v) cut ahead of its write: %v", was, s, now)
	}
	return left, now
}

func TestEachTear(t *testing.T) { // P7.5
	for _, x := range starts() {
		d := x.disk(t)
		wantNewest(t, "the start", d, x.newest, x.newest != State{})
		s := State{x.newest.Turn, 1<<59 + 12345, 1<<59 + 777}
		n := State{s.Turn + 1, s.Base, s.Check}
		for keep := 0; keep <= 41; keep++ {
			afterCut(t, d, s, 1, keep)
			left, now := afterCut(t, d, s, 2, keep)
			b := left.Lasts().Masters[n.Turn%2]
			if whole := bytes.Equal(b, right(n)); whole != (now == n) {
				t.Errorf("over %v: kept %d: % x is left, Newest: %v", x.newest, keep, b, now)
			}
		}
		_, now := afterCut(t, d, s, 2, 1)
		if now != n {
			t.Errorf("over %v: kept whole: %v, want %v", x.newest, now, n)
		}
		_, now = afterCut(t, d, s, 2, 0)
		if now != x.newest {
			t.Errorf("over %v: lost: %v", x.newest, now)
		}
	}
}

// Tears over tears of the same turn, of a Next that says something else.
func TestTearsOverTears(t *testing.T) { // P7.5
	for _, x := range starts() {
		d := x.disk(t)
		turn := x.newest.Turn
		for keep := 0; keep <= 41; keep++ {
			first, now := afterCut(t, d, State{turn, 1<<58 + 99, 3}, 2, keep)
			if now != x.newest {
				continue
			}
			for again := 0; again <= 41; again++ {
				second, now := afterCut(t, first, State{turn, 7, 1<<57 + 5}, 2, again)
				if now != x.newest {
					continue
				}
				for _, third := range []int{2, 10, 29, 33, 34, 40} {
					afterCut(t, second, State{turn, 1<<58 + 99, 1<<57 + 5}, 2, third)
				}
				if again%10 == 0 {
					n := wantNext(t, second, State{turn, 2, 3})
					wantNewest(t, "behind tears", second, n, true)
				}
			}
		}
	}
}

// Long runs of Nexts, some of them cut, with what a crash leaves gone on with.
func TestRuns(t *testing.T) { // P7.5
	r := rand.New(rand.NewSource(3))
	for _, turn := range []int{0, 250, 65530, 1<<32 - 6, most - 1000} {
		x := start{other: make([]byte, 40)}
		if turn > 0 {
			x.newest = State{turn, 1, 1}
		}
		d, was := x.disk(t), x.newest
		for range 400 {
			s := State{was.Turn, r.Intn(most), r.Intn(1 + r.Intn(most))}
			if r.Intn(3) == 0 {
				was = wantNext(t, d, s)
			} else {
				d, was = afterCut(t, d, s, 1+r.Intn(2), r.Intn(50))
			}
			wantNewest(t, "in a run", d, was, was != State{})
		}
	}
}

func TestMemoryOfBytes(t *testing.T) { // P7.6
	s := State{257, 5, 9}
	first, _ := master.Bytes(s)
	second, _ := master.Bytes(s)
	scribble(first)
	if !bytes.Equal(second, right(s)) {
		t.Errorf("Bytes: two answers share memory: % x", second)
	}
	third, _ := master.Bytes(s)
	if !bytes.Equal(third, right(s)) {
		t.Errorf("Bytes: an answer was kept: % x", third)
	}
}

// scribble writes over a list and its spare room.
func scribble(b []byte) {
	b = b[:cap(b)]
	for i := range b {
		b[i] ^= 0xff
	}
}

func TestMemoryOfParse(t *testing.T) { // P7.6
	for _, want := range []State{{257, 5, 9}, {}} {
		row := make([]byte, 40)
		if want != (State{}) {
			row = right(want)
		}
		marks := bytes.Repeat([]byte{0xa5}, 80)
		all := append(append(bytes.Clone(marks), row...), marks...)
		was := bytes.Clone(all)
		s, ok := master.Parse(all[80:120])
		if s != want || ok != (want != State{}) {
			t.Errorf("Parse: %v, %v, want %v", s, ok, want)
		}
		if !bytes.Equal(all, was) {
			t.Errorf("Parse changed what was handed in: % x, want % x", all, was)
		}
	}
}

// What was asked before plays no part, nor does another disk.
func TestNothingIsKept(t *testing.T) { // P7.6
	one, other := holding(t, right(State{2, 9, 4}), right(State{1, 8, 7})), fresh(t)
	wantNewest(t, "the one", one, State{2, 9, 4}, true)
	wantNewest(t, "the other", other, State{}, false)
	n := wantNext(t, other, State{6, 1, 1})
	wantNewest(t, "the one again", one, State{2, 9, 4}, true)
	wantNewest(t, "the other again", other, n, true)
	dead := one.Copy()
	dead.Stop(1)
	wantDead(t, dead, State{2, 9, 4})
	wantNewest(t, "the one, with a dead copy", one, State{2, 9, 4}, true)
}
