package crc_test

import (
	"bytes"
	"hash/crc32"
	"math/rand"
	"testing"

	"tidemark/crc"
)

// slow goes over the bytes bit by bit, just as the chapter tells it: the program's table plays no part.
func slow(sum uint32, b []byte) uint32 {
	word := ^sum
	for _, x := range b {
		word ^= uint32(x)
		for range 8 {
			out := word & 1
			word >>= 1
			if out == 1 {
				word ^= 0xedb88320
			}
		}
	}
	return ^word
}

// some gives n bytes that are the same in each run.
func some(seed int64, n int) []byte {
	b := make([]byte, n)
	rand.New(rand.NewSource(seed)).Read(b)
	return b
}

func wantSum(t *testing.T, want uint32, rows ...[]byte) {
	t.Helper()
	if got := crc.Sum(rows...); got != want {
		t.Errorf("Sum(% x): %08x, want %08x", rows, got, want)
	}
}

func wantMore(t *testing.T, want, sum uint32, b []byte) {
	t.Helper()
	if got := crc.More(sum, b); got != want {
		t.Errorf("More(%08x, % x): %08x, want %08x", sum, b, got, want)
	}
}

func TestSumOfTheExamples(t *testing.T) { // P2.1
	wantSum(t, 0xd202ef8d, []byte{0})
	wantSum(t, 0xcbf43926, []byte("123456789"))
	wantSum(t, 0xcbf43926, []byte("1234"), []byte("56789"))
	wantSum(t, 0xe8b7be43, []byte("a"))
	wantSum(t, 0x352441c2, []byte("abc"))
	wantSum(t, 0x190a55ad, make([]byte, 32))
	wantSum(t, 0xff6cab0b, bytes.Repeat([]byte{255}, 32))
}

func TestSumOfNoByte(t *testing.T) { // P2.1
	wantSum(t, 0)
	wantSum(t, 0, nil)
	wantSum(t, 0, []byte{})
	wantSum(t, 0, nil, []byte{}, nil)
}

func TestSumOfEachByte(t *testing.T) { // P2.1
	for x := range 256 {
		b := []byte{byte(x)}
		wantSum(t, slow(0, b), b)
	}
}

func TestSumOfManyLengths(t *testing.T) { // P2.1
	for n := range 200 {
		b := some(int64(n), n)
		wantSum(t, slow(0, b), b)
		wantSum(t, crc32.ChecksumIEEE(b), b)
	}
	long := some(7, 1<<20)
	if got, want := crc.Sum(long), crc32.ChecksumIEEE(long); got != want {
		t.Errorf("Sum of 2^20 bytes: %08x, want %08x", got, want)
	}
}

func TestMoreOfTheExamples(t *testing.T) { // P2.2
	wantMore(t, 0x352441c2, 0, []byte("abc"))
	wantMore(t, 0x352441c2, 0xe8b7be43, []byte("bc"))
	wantMore(t, 0x12345678, 0x12345678, nil)
}

func TestMoreOfNoByteIsTheSum(t *testing.T) { // P2.2
	for _, sum := range []uint32{0, 1, 0x7fffffff, 0x80000000, 0xedb88320, 0xffffffff} {
		wantMore(t, sum, sum, nil)
		wantMore(t, sum, sum, []byte{})
	}
}

func TestMoreOfAnyNumber(t *testing.T) { // P2.2
	for i := range 33 {
		sum := uint32(1<<i - 1)
		for n := range 40 {
			b := some(int64(100*i+n), n)
			wantMore(t, slow(sum, b), sum, b)
			wantMore(t, slow(^sum, b), ^sum, b)
		}
	}
}

func TestMoreGoesOnFromASum(t *testing.T) { // P2.2
	for n := range 30 {
		a, b := some(int64(n), n), some(int64(n+50), 29-n)
		wantMore(t, crc.Sum(a, b), crc.Sum(a), b)
	}
}

func TestWhereRowsAreCutPlaysNoPart(t *testing.T) { // P2.3
	b := some(3, 24)
	want := crc.Sum(b)
	for i := range len(b) + 1 {
		for j := i; j <= len(b); j++ {
			wantSum(t, want, b[:i], b[i:j], nil, b[j:])
		}
	}
	var single [][]byte
	for i := range b {
		single = append(single, b[i:i+1])
	}
	wantSum(t, want, single...)
}

// turned gives a copy of b in which the bits of run are turned, from the bit at (of all, each byte's lowest first) on.
func turned(b []byte, at int, run uint32) []byte {
	out := bytes.Clone(b)
	for i := range 32 {
		if run>>i&1 == 1 {
			out[(at+i)/8] ^= 1 << ((at + i) % 8)
		}
	}
	return out
}

func TestARunOf32BitsChangesTheSum(t *testing.T) { // P2.3
	dice := rand.New(rand.NewSource(5))
	for _, b := range [][]byte{make([]byte, 12), some(4, 12)} {
		want := crc.Sum(b)
		for at := range 8*len(b) - 31 {
			runs := []uint32{1, 3, 0x80000001, 0xedb88320, 0xdb710641, 0xffffffff}
			for range 50 {
				runs = append(runs, dice.Uint32()|1)
			}
			for _, run := range runs {
				if other := turned(b, at, run); crc.Sum(other) == want {
					t.Fatalf("% x and % x have one sum", b, other)
				}
			}
		}
	}
}

func TestOneByteChangesTheSum(t *testing.T) { // P2.3
	for _, b := range [][]byte{make([]byte, 9), some(6, 9)} {
		sums := map[uint32]int{crc.Sum(b): 1}
		for i := range b {
			for x := 1; x < 256; x++ {
				other := bytes.Clone(b)
				other[i] ^= byte(x)
				sums[crc.Sum(other)]++
			}
		}
		if sums[crc.Sum(b)] != 1 {
			t.Errorf("a change in one byte of % x leaves its sum", b)
		}
	}
}

func TestSumsAreTurnedAsTheBytesAre(t *testing.T) { // P2.3
	for n := range 70 {
		a, b, both := some(int64(n), n), some(int64(n+1000), n), make([]byte, n)
		for i := range both {
			both[i] = a[i] ^ b[i]
		}
		wantSum(t, crc.Sum(a)^crc.Sum(b)^crc.Sum(make([]byte, n)), both)
	}
}

func TestUnlikeSumsStayUnlike(t *testing.T) { // P2.3
	for n := range 20 {
		b := some(int64(n), n)
		seen := map[uint32]uint32{}
		for i := range 32 {
			for _, sum := range []uint32{1 << i, ^uint32(1 << i), uint32(i) * 0x01010101} {
				got := crc.More(sum, b)
				if old, ok := seen[got]; ok && old != sum {
					t.Fatalf("More(%08x) and More(%08x) of % x are both %08x", old, sum, b, got)
				}
				seen[got] = sum
			}
		}
	}
}

func TestWhatIsHandedInIsNotChanged(t *testing.T) { // P2.4
	whole := some(8, 64)
	before := bytes.Clone(whole)
	rows := [][]byte{whole[:10], nil, whole[10:30], whole[5:20]}
	kept := append([][]byte{}, rows...)
	crc.Sum(rows...)
	crc.More(7, whole[:20])
	if !bytes.Equal(whole, before) {
		t.Errorf("bytes or their spare room changed: % x", whole)
	}
	for i := range rows {
		if len(rows[i]) != len(kept[i]) || cap(rows[i]) != cap(kept[i]) || len(rows[i]) > 0 && &rows[i][0] != &kept[i][0] {
			t.Errorf("row %d is another", i)
		}
	}
}

func TestWhatIsHandedInIsNotKept(t *testing.T) { // P2.4
	b := []byte("abc")
	wantSum(t, 0x352441c2, b)
	b[0] = 'x'
	wantSum(t, 0x352441c2, []byte("abc"))
	wantMore(t, 0x352441c2, 0xe8b7be43, []byte("bc"))
	wantSum(t, slow(0, []byte("xbc")), b)
	wantSum(t, 0)
	wantMore(t, 0x352441c2, 0, []byte("abc"))
}
