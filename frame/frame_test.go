package frame_test

import (
	"bytes"
	"encoding/binary"
	"hash/crc32"
	"math"
	"math/rand"
	"testing"

	"tidemark/api"
	"tidemark/frame"
)

const (
	mostBody = 1024
	mostLsn  = 1 << 60
)

// build lays a frame out by hand, with the library's sum; the length and the LSN may be such that no frame has.
func build(length uint32, lsn uint64, body []byte) []byte {
	b := binary.LittleEndian.AppendUint32(nil, length)
	b = binary.LittleEndian.AppendUint64(b, lsn)
	b = append(b, body...)
	return binary.LittleEndian.AppendUint32(b, crc32.ChecksumIEEE(b))
}

// right lays out the frame of a body.
func right(lsn int, body []byte) []byte { return build(uint32(len(body)), uint64(lsn), body) }

// filled gives a body of n bytes that are not all alike.
func filled(n int) []byte {
	b := make([]byte, n)
	for i := range b {
		b[i] = byte(i*7 + i>>8 + n)
	}
	return b
}

// lsns gives LSNs that a frame may have, the edges among them.
func lsns() []int {
	return []int{1, 2, 255, 256, 258, 1<<32 - 1, 1 << 32, 0x0706050403020100, mostLsn - 1, mostLsn}
}

// noLsns gives numbers that no frame has as its LSN.
func noLsns() []int {
	return []int{0, -1, -2, -258, -mostLsn, math.MinInt, mostLsn + 1, mostLsn + 2, 1 << 61, 1 << 62, math.MaxInt}
}

func wantWrap(t *testing.T, lsn int, body []byte, want []byte, wantErr api.Errno) {
	t.Helper()
	if b, e := frame.Wrap(lsn, body); !bytes.Equal(b, want) || e != wantErr {
		t.Errorf("Wrap(%d, %d bytes): % x, %d, want % x, %d", lsn, len(body), b, e, want, wantErr)
	}
}

func wantOpen(t *testing.T, b []byte, lsn int, body []byte) {
	t.Helper()
	got, n, e := frame.Open(b, lsn)
	if !bytes.Equal(got, body) || n != len(body)+16 || e != api.OK {
		t.Errorf("Open(%d bytes, %d): % x, %d, %d, want % x, %d, OK", len(b), lsn, got, n, e, body, len(body)+16)
	}
}

func refuseOpen(t *testing.T, b []byte, lsn int) {
	t.Helper()
	got, n, e := frame.Open(b, lsn)
	if len(got) != 0 || n != 0 || e != api.ErrFrame {
		t.Errorf("Open(% x, %d): % x, %d, %d, want ErrFrame and zeros", b[:min(len(b), 40)], lsn, got, n, e)
	}
}

func TestSize(t *testing.T) { // P8.1
	for n := -2000; n <= 4000; n++ {
		want := 0
		if n >= 1 && n <= mostBody {
			want = n + 16
		}
		if got := frame.Size(n); got != want {
			t.Errorf("Size(%d): %d, want %d", n, got, want)
		}
	}
	for _, n := range []int{math.MinInt, -mostLsn, 1<<32 + 1, 1 << 33, mostLsn, math.MaxInt - 15, math.MaxInt} {
		if got := frame.Size(n); got != 0 {
			t.Errorf("Size(%d): %d, want 0", n, got)
		}
	}
}

func TestWrapLaysTheFrame(t *testing.T) { // P8.2
	wantWrap(t, 258, []byte{7}, []byte{1, 0, 0, 0, 2, 1, 0, 0, 0, 0, 0, 0, 7, 0xbc, 0x22, 0xda, 0xae}, api.OK)
	for n := 1; n <= mostBody; n++ {
		body := filled(n)
		wantWrap(t, n, body, right(n, body), api.OK)
	}
	for _, lsn := range lsns() {
		for _, n := range []int{1, 2, 255, 256, 257, 1023, 1024} {
			body := filled(n)
			wantWrap(t, lsn, body, right(lsn, body), api.OK)
			wantWrap(t, lsn, make([]byte, n), right(lsn, make([]byte, n)), api.OK)
		}
	}
}

func TestWrapRefuses(t *testing.T) { // P8.2
	wrong := [][]byte{nil, {}, filled(1025), filled(1026), filled(2048), filled(65536), filled(65537)}
	for _, body := range wrong {
		for _, lsn := range append(lsns(), noLsns()...) { // a wrong body is named ahead of a wrong LSN
			wantWrap(t, lsn, body, nil, api.ErrBody)
		}
	}
	for _, lsn := range noLsns() {
		for _, n := range []int{1, 16, 1024} {
			wantWrap(t, lsn, filled(n), nil, api.ErrRange)
		}
	}
}

func TestOpen(t *testing.T) { // P8.3
	for n := 1; n <= mostBody; n++ {
		body := filled(n)
		wantOpen(t, right(n, body), n, body)
	}
	for _, lsn := range lsns() {
		for _, n := range []int{1, 2, 255, 256, 257, 1023, 1024} {
			body := filled(n)
			wantOpen(t, right(lsn, body), lsn, body)
			wantOpen(t, right(lsn, make([]byte, n)), lsn, make([]byte, n))
		}
	}
}

func TestWhatIsBehindPlaysNoPart(t *testing.T) { // P8.3
	body := filled(5)
	f := right(258, body)
	for _, behind := range [][]byte{{0}, {9}, make([]byte, 3000), filled(3000), f, right(258+21, filled(1024)), right(258, nil), f[:20]} {
		wantOpen(t, append(bytes.Clone(f), behind...), 258, body)
	}
	for n := range 40 {
		wantOpen(t, append(bytes.Clone(f), filled(n)...), 258, body)
	}
}

func TestOpenRefusesNoLsn(t *testing.T) { // P8.3
	for _, lsn := range noLsns() { // the bytes say just that LSN, with the right sum
		refuseOpen(t, right(lsn, []byte{7}), lsn)
		refuseOpen(t, right(lsn, filled(1024)), lsn)
		refuseOpen(t, right(1, []byte{7}), lsn)
		refuseOpen(t, nil, lsn)
	}
}

func TestOpenRefusesAnotherLsn(t *testing.T) { // P8.3
	for _, lsn := range lsns() {
		f := right(lsn, filled(9))
		for _, other := range append(lsns(), noLsns()...) {
			if other != lsn {
				refuseOpen(t, f, other)
			}
		}
		for bit := range 64 {
			refuseOpen(t, f, lsn^1<<bit)
		}
	}
}

func TestOpenRefusesFewBytes(t *testing.T) { // P8.3
	refuseOpen(t, nil, 1)
	refuseOpen(t, []byte{}, 1)
	for n := range 60 {
		refuseOpen(t, make([]byte, n), 1)
		refuseOpen(t, bytes.Repeat([]byte{1}, n), 1)
		refuseOpen(t, bytes.Repeat([]byte{255}, n), 1)
	}
	for _, n := range []int{1, 2, 300, 1024} {
		f := right(77, filled(n))
		for short := range f {
			refuseOpen(t, f[:short], 77) // what is cut off stands in the spare room, which is no part of the bytes
			refuseOpen(t, bytes.Clone(f[:short]), 77)
		}
	}
}

func TestOpenRefusesLengths(t *testing.T) { // P8.3
	for _, n := range []int{0, 1025, 1026, 2048, 65536, 65537} { // all else is as in a frame
		refuseOpen(t, right(77, filled(n)), 77)
		refuseOpen(t, append(right(77, filled(n)), make([]byte, 2000)...), 77)
	}
	for _, length := range []uint32{0, 2, 1025, 1<<16 + 1, 1<<24 + 1, 1<<31 - 1, 1 << 31, 1<<31 + 1, math.MaxUint32 - 15, math.MaxUint32} {
		b := build(length, 77, []byte{7})
		refuseOpen(t, b, 77)
		refuseOpen(t, append(b, make([]byte, 2000)...), 77)
	}
}

func TestOpenRefusesSums(t *testing.T) { // P8.3
	body := filled(30)
	f := right(77, body)
	sum := binary.LittleEndian.Uint32(f[42:])
	for _, wrong := range []uint32{0, ^sum, sum + 1, sum - 1, crc32.ChecksumIEEE(body), crc32.ChecksumIEEE(f[4:42]), crc32.ChecksumIEEE(f), math.MaxUint32} {
		refuseOpen(t, binary.LittleEndian.AppendUint32(bytes.Clone(f[:42]), wrong), 77)
	}
	refuseOpen(t, binary.BigEndian.AppendUint32(bytes.Clone(f[:42]), sum), 77)
}

func TestOpenOfWhatWrapMade(t *testing.T) { // P8.4
	for _, lsn := range lsns() {
		for _, n := range []int{1, 3, 100, 1024} {
			body := filled(n)
			f, e := frame.Wrap(lsn, body)
			if e != api.OK || len(f) != frame.Size(n) {
				t.Fatalf("Wrap(%d, %d bytes): %d bytes, %d", lsn, n, len(f), e)
			}
			wantOpen(t, f, lsn, body)
			for _, behind := range []int{1, 4, 16, 2000} {
				wantOpen(t, append(bytes.Clone(f), filled(behind)...), lsn, body)
			}
			refuseOpen(t, f, lsn+1)
			refuseOpen(t, f, lsn-1)
			for _, short := range []int{0, 3, 4, 11, 12, 13, 16, len(f) - 4, len(f) - 1} {
				refuseOpen(t, f[:short], lsn)
			}
		}
	}
}

func TestOpenOfATurnedByte(t *testing.T) { // P8.4
	for _, body := range [][]byte{{7}, {0}, make([]byte, 20), filled(33)} {
		f, _ := frame.Wrap(300, body)
		for i := 4; i < len(f); i++ {
			for turn := 1; turn < 256; turn++ {
				b := append(bytes.Clone(f), filled(50)...)
				b[i] ^= byte(turn)
				refuseOpen(t, b, 300)
				refuseOpen(t, b[:len(f)], 300)
			}
		}
	}
	f, _ := frame.Wrap(300, filled(1024))
	for i := 4; i < len(f); i++ {
		b := bytes.Clone(f)
		b[i] ^= 1 << (i % 8)
		refuseOpen(t, b, 300)
	}
}

// wantOneForm looks that whatever Open takes is just what Wrap makes of it.
func wantOneForm(t *testing.T, b []byte, lsn int) bool {
	t.Helper()
	body, n, e := frame.Open(b, lsn)
	if e != api.OK {
		refuseOpen(t, b, lsn)
		return false
	}
	f, e := frame.Wrap(lsn, body)
	if e != api.OK || n != len(f) || !bytes.HasPrefix(b, f) {
		t.Errorf("Open(% x, %d) gives % x, %d; Wrap of it % x, %d", b, lsn, body, n, f, e)
	}
	return true
}

func TestOneForm(t *testing.T) { // P8.4
	random := rand.New(rand.NewSource(8))
	taken, refused := 0, 0
	for range 20000 {
		lsn := 1 + random.Intn(4)
		body := make([]byte, random.Intn(6))
		random.Read(body)
		b := append(right(lsn+random.Intn(2), body), filled(random.Intn(8))...)
		if random.Intn(4) == 0 {
			b[random.Intn(len(b))] ^= byte(1 + random.Intn(255))
		}
		if random.Intn(4) == 0 {
			b = b[:random.Intn(len(b)+1)]
		}
		if wantOneForm(t, b, lsn) {
			taken++
		} else {
			refused++
		}
	}
	if taken < 2000 || refused < 2000 {
		t.Errorf("%d taken, %d refused: the run does not try both", taken, refused)
	}
}

func TestALogOfFrames(t *testing.T) { // P8.3, P8.4
	random := rand.New(rand.NewSource(88))
	const base = 5000
	var log []byte
	var bodies [][]byte
	for range 60 {
		body := make([]byte, 1+random.Intn(mostBody))
		random.Read(body)
		f, e := frame.Wrap(base+len(log)+1, body)
		if e != api.OK {
			t.Fatalf("Wrap: %d", e)
		}
		log, bodies = append(log, f...), append(bodies, body)
	}
	at := 0
	for _, want := range bodies {
		wantOpen(t, log[at:], base+at+1, want)
		at += len(want) + 16
	}
	refuseOpen(t, log[at:], base+at+1)
}

// marked gives a copy with marks in the room behind it, which whole must find again.
func marked(b []byte) []byte {
	return append(bytes.Clone(b), bytes.Repeat([]byte{0xa5}, 24)...)[:len(b)]
}

func whole(t *testing.T, b, want []byte) {
	t.Helper()
	if !bytes.Equal(b, want) || !bytes.Equal(b[len(b):cap(b)][:24], bytes.Repeat([]byte{0xa5}, 24)) {
		t.Errorf("what was handed in was changed: % x", b[:cap(b)])
	}
}

// scribble writes over a list and its spare room.
func scribble(b []byte) {
	b = b[:cap(b)]
	for i := range b {
		b[i] = 0xee
	}
}

func TestWrapAnswersNewMemory(t *testing.T) { // P8.5
	body := filled(10)
	given := marked(body)
	first, _ := frame.Wrap(9, given)
	second, _ := frame.Wrap(9, given)
	whole(t, given, body)
	scribble(first)
	whole(t, given, body)
	scribble(given)
	if !bytes.Equal(second, right(9, body)) {
		t.Errorf("what was answered was changed: % x", second)
	}
}

func TestOpenAnswersNewMemory(t *testing.T) { // P8.5
	body := filled(10)
	bytesOfLog := append(right(9, body), right(35, filled(3))...)
	given := marked(bytesOfLog)
	first, _, _ := frame.Open(given, 9)
	second, _, _ := frame.Open(given, 9)
	frame.Open(given, 10)
	whole(t, given, bytesOfLog)
	scribble(first)
	whole(t, given, bytesOfLog)
	_ = append(second[:0:cap(second)], bytes.Repeat([]byte{0xdd}, cap(second))...)
	whole(t, given, bytesOfLog)
	third, _, _ := frame.Open(given, 9)
	scribble(given)
	if !bytes.Equal(third, body) {
		t.Errorf("what was answered was changed: % x", third)
	}
}
