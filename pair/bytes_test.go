package pair_test

import (
	"bytes"
	"encoding/binary"
	"math"
	"math/rand"
	"testing"

	"tidemark/pair"
)

// lsns are LSNs that a page in a pair may have, the edges among them.
func lsns() []int {
	return []int{1, 2, 255, 256, 258, 1 << 31, 1 << 32, 1<<56 + 1, mostLsn - 1, mostLsn}
}

func TestMakeExamples(t *testing.T) { // P13.1, P13.2: example 1
	a := stamped(258)
	want := append([]byte{2, 1, 0, 0, 0, 0, 0, 0, 1, 0, 0, 0, 0, 0, 0, 0}, a...)
	wantMake(t, 1, a, want)
	p, _ := pair.Make(1, a)
	if len(p) != 56 || p.Lsn() != 258 || p.Number() != 1 {
		t.Errorf("%d bytes, Lsn %d, Number %d, want 56, 258, 1", len(p), p.Lsn(), p.Number())
	}
	wantBytes(t, "Page", p.Page(), a)
	refuseMake(t, "another number", 0, a)
	refuseMake(t, "LSN 0", 1, stamped(0))
	refuseMake(t, "blank", 1, make([]byte, 40))
	refuseMake(t, "none", 1, nil)
	refuseMake(t, "none", 1, []byte{})
}

func TestMakeOfEveryPageThatMayBe(t *testing.T) { // P13.1, P13.2, P13.3
	for slots := 1; slots <= 8; slots++ {
		for number := range 16 {
			for _, lsn := range lsns() {
				b := sheet(number, lsn, slots, byte(lsn)+byte(slots))
				want := pairOf(number, lsn, b)
				wantMake(t, number, b, want)
				p := pair.Bytes(want)
				if p.Lsn() != lsn || p.Number() != number || !bytes.Equal(p.Page(), b) {
					t.Errorf("of % x: Lsn %d, Number %d, Page % x", want, p.Lsn(), p.Number(), p.Page())
				}
				wantParse(t, want, number+1, slots, number, b)
				wantParse(t, want, 16, slots, number, b)
			}
		}
	}
}

func TestMakeRefusesLengthsThatNoPageHas(t *testing.T) { // P13.1
	for n := range 200 {
		if n >= 40 && n <= 152 && (n-24)%16 == 0 {
			continue
		}
		refuseMake(t, "zeros", 1, make([]byte, n))
		if n >= 24 {
			b := layPage(1, 258, 258, make([]byte, n-24)) // all else is right
			refuseMake(t, "another length", 1, b)
			refuseMake(t, "with spare room", 1, spare(b))
		}
	}
	// The room behind a page's bytes is no part of it.
	refuseMake(t, "39 bytes of 40", 1, stamped(258)[:39])
	wantMake(t, 1, spare(stamped(258)), pairOf(1, 258, stamped(258)))
	refuseMake(t, "no slot", 1, sheet(1, 258, 0, 0))
	refuseMake(t, "nine slots", 1, sheet(1, 258, 9, 0))
	refuseMake(t, "a hundred slots", 1, sheet(1, 258, 100, 0))
}

func TestMakeRefusesNumbers(t *testing.T) { // P13.1
	for _, n := range []int{-1, 0, 2, 15, 16, 17, 257, 1<<32 + 1, -1<<32 + 1, math.MaxInt, math.MinInt, math.MinInt + 1} {
		refuseMake(t, "another number", n, stamped(258))
		if n != 1 && (n < 0 || n > 15) {
			refuseMake(t, "no number", n, sheet(n, 258, 1, 7))
			refuseMake(t, "blank", n, make([]byte, 40))
		}
	}
}

func TestMakeRefusesPagesThatAreNotRight(t *testing.T) { // P13.1
	slots := bytes.Repeat([]byte{3}, 32)
	refuseMake(t, "the LSNs part", 1, layPage(1, 258, 259, slots))
	refuseMake(t, "no LSN at the end", 1, layPage(1, 258, 0, slots))
	refuseMake(t, "no LSN at the beginning", 1, layPage(1, 0, 258, slots))
	refuseMake(t, "LSN 0 with slots", 1, layPage(1, 0, 0, slots))
	for _, lsn := range []uint64{mostLsn + 1, 1 << 61, 1 << 63, 1<<63 + 1, math.MaxUint64} {
		refuseMake(t, "above MaxLsn", 1, layPage(1, lsn, lsn, slots))
	}
	b := layPage(1, 258, 258, slots)
	for i := range b {
		refuseMake(t, "a byte turned", 1, other(b, i, 1))
		refuseMake(t, "a byte turned", 1, other(b, i, 0xff))
	}
	wantMake(t, 1, b, pairOf(1, 258, b))
}

func TestPartsExamples(t *testing.T) { // P13.2: example 3
	for _, none := range []pair.Bytes{nil, {}} {
		if none.Lsn() != 0 || none.Number() != 0 || len(none.Page()) != 0 {
			t.Errorf("none: Lsn %d, Number %d, Page % x", none.Lsn(), none.Number(), none.Page())
		}
	}
	full := pair.Bytes(bytes.Repeat([]byte{0xff}, 8))
	if full.Lsn() != 0 || full.Number() != 0 || len(full.Page()) != 0 {
		t.Errorf("eight ff: Lsn %d, Number %d, Page % x", full.Lsn(), full.Number(), full.Page())
	}
	ones := pair.Bytes(bytes.Repeat([]byte{1}, 20))
	if ones.Lsn() != 72340172838076673 || ones.Number() != 16843009 {
		t.Errorf("ones: Lsn %d, Number %d", ones.Lsn(), ones.Number())
	}
	wantBytes(t, "ones", ones.Page(), []byte{1, 1, 1, 1})
}

// wantParts looks at the parts of any bytes; each is told by its places alone.
func wantParts(t *testing.T, b []byte) {
	t.Helper()
	lsn, number := 0, 0
	var content []byte
	if len(b) >= 8 {
		if x := binary.LittleEndian.Uint64(b); x <= mostLsn {
			lsn = int(x)
		}
	}
	if len(b) >= 12 {
		number = int(binary.LittleEndian.Uint32(b[8:]))
	}
	if len(b) >= 16 {
		content = b[16:]
	}
	p := pair.Bytes(spare(b))
	if p.Lsn() != lsn || p.Number() != number || !bytes.Equal(p.Page(), content) {
		t.Errorf("of % x: Lsn %d, Number %d, Page % x, want %d, %d, % x", b, p.Lsn(), p.Number(), p.Page(), lsn, number, content)
	}
	untouched(t, "the parts", p, b)
}

func TestPartsOfAnyBytes(t *testing.T) { // P13.2
	for n := range 80 {
		whole := make([]byte, n)
		for i := range whole {
			whole[i] = byte(i + 1)
		}
		wantParts(t, whole) // the eighth byte is 8: an LSN that may be
		wantParts(t, bytes.Repeat([]byte{0xff}, n))
		wantParts(t, make([]byte, n))
	}
	for _, lsn := range []uint64{0, 1, mostLsn - 1, mostLsn, mostLsn + 1, 1<<61 + 5, 1 << 63, 1<<63 + 1, math.MaxUint64 - 1} {
		for _, number := range []uint32{0, 1, 15, 16, 1 << 16, 1 << 31, math.MaxUint32} {
			wantParts(t, layPair(lsn, number, 0, nil))
			wantParts(t, layPair(lsn, number, math.MaxUint32, stamped(3)))
		}
	}
	rng := rand.New(rand.NewSource(13))
	for range 3000 {
		b := make([]byte, rng.Intn(200))
		rng.Read(b)
		if len(b) > 7 && rng.Intn(2) == 0 {
			b[7] &= 0x1f
		}
		wantParts(t, b)
	}
}

func TestParseExamples(t *testing.T) { // P13.3: example 2
	b := pairOf(1, 258, stamped(258))
	wantParse(t, b, 2, 1, 1, stamped(258))
	refuseParse(t, "one page", b, 1, 1)
	refuseParse(t, "two slots", b, 2, 2)
	refuseParse(t, "zeros", make([]byte, 56), 2, 1)
	refuseParse(t, "none", nil, 2, 1)
	refuseParse(t, "another LSN", layPair(259, 1, 0, stamped(258)), 2, 1)
}

func TestParseByHowManyPages(t *testing.T) { // P13.3
	for number := range 16 {
		b := pairOf(number, 77, sheet(number, 77, 2, 9))
		for _, pages := range []int{math.MinInt, -1, 0, 1, number - 1, number, number + 1, 15, 16, 17, 1 << 32, math.MaxInt} {
			if number < pages {
				wantParse(t, b, pages, 2, number, sheet(number, 77, 2, 9))
			} else {
				refuseParse(t, "no such page", b, pages, 2)
			}
		}
	}
	for _, number := range []int{16, 17, 256, 1 << 16, 1 << 31, math.MaxUint32} {
		b := pairOf(number, 77, sheet(number, 77, 2, 9))
		for _, pages := range []int{2, 16, number, number + 1, math.MaxInt} {
			refuseParse(t, "a number that none has", b, pages, 2)
		}
	}
}

func TestParseByHowManySlots(t *testing.T) { // P13.3
	for in := 0; in <= 10; in++ {
		content := sheet(1, 77, in, 9)
		b := pairOf(1, 77, content)
		for _, slots := range []int{math.MinInt, -1 << 60, -2, -1, 0, 1, 2, 3, 4, 5, 6, 7, 8, 9, 10, 1<<60 + in, math.MaxInt} {
			if slots == in && in >= 1 && in <= 8 {
				wantParse(t, b, 2, slots, 1, content)
			} else {
				refuseParse(t, "other slots", b, 2, slots)
			}
		}
	}
	refuseParse(t, "none, of no slot", nil, 2, 0)
	refuseParse(t, "a head, of no slot", make([]byte, 16), 2, 0)
	refuseParse(t, "a head, of a slot below 0", pairOf(1, 77, nil), 2, -1)
}

func TestParseLooksAtTheLength(t *testing.T) { // P13.3
	b := pairOf(1, 258, stamped(258))
	for n := range 56 {
		refuseParse(t, "cut", spare(b[:n]), 2, 1)
		refuseParse(t, "cut, with the rest in its spare room", b[:n], 2, 1)
	}
	refuseParse(t, "a byte more", append(bytes.Clone(b), 0), 2, 1)
	refuseParse(t, "a slot more", append(bytes.Clone(b), make([]byte, 16)...), 2, 1)
	refuseParse(t, "the page alone", stamped(258), 2, 1)
	wantParse(t, spare(b), 2, 1, 1, stamped(258))
}

func TestParseLooksAtEachByteButFour(t *testing.T) { // P13.3
	content := sheet(1, 258, 2, 5)
	b := pairOf(1, 258, content)
	for i := range b {
		for by := 1; by < 256; by++ {
			turned := other(b, i, byte(by))
			if i >= 12 && i < 16 {
				wantParse(t, turned, 2, 2, 1, content)
			} else {
				refuseParse(t, "a byte turned", turned, 2, 2)
			}
		}
	}
	wantParse(t, layPair(258, 1, math.MaxUint32, content), 2, 2, 1, content)
}

func TestParseLooksAtLsnAndNumber(t *testing.T) { // P13.3
	content := sheet(1, 258, 1, 5)
	for _, lsn := range []uint64{0, 1, 257, 259, 258 + 1<<32, 258 + 1<<61, math.MaxUint64} {
		refuseParse(t, "another LSN", layPair(lsn, 1, 0, content), 2, 1)
	}
	for _, number := range []uint32{0, 2, 257, 1<<31 + 1, math.MaxUint32} {
		refuseParse(t, "another number", layPair(258, number, 0, content), 16, 1)
	}
	refuseParse(t, "LSN 0", pairOf(1, 0, sheet(1, 0, 1, 5)), 2, 1)
	refuseParse(t, "LSN 0, and it's free", pairOf(1, 0, stamped(0)), 2, 1)
	refuseParse(t, "a blank page", pairOf(1, 0, make([]byte, 40)), 2, 1)
	refuseParse(t, "a blank page and an LSN", pairOf(1, 258, make([]byte, 40)), 2, 1)
	for _, lsn := range []uint64{mostLsn + 1, 1 << 63, math.MaxUint64} {
		refuseParse(t, "above MaxLsn", layPair(lsn, 1, 0, layPage(1, lsn, lsn, make([]byte, 16))), 2, 1)
		// The head's number alone is 0 where it is above MaxLsn: so is none that is right.
		refuseParse(t, "above MaxLsn, a blank page", layPair(lsn, 1, 0, make([]byte, 40)), 2, 1)
		refuseParse(t, "above MaxLsn, LSN 0", layPair(lsn, 1, 0, stamped(0)), 2, 1)
	}
	refuseParse(t, "the LSNs part", layPair(258, 1, 0, layPage(1, 258, 259, make([]byte, 16))), 2, 1)
	refuseParse(t, "the LSNs part", layPair(259, 1, 0, layPage(1, 258, 259, make([]byte, 16))), 2, 1)
}

func TestParseOfTears(t *testing.T) { // P13.3
	old, now := pairOf(0, 7, sheet(0, 7, 1, 1)), pairOf(1, 9, sheet(1, 9, 1, 2))
	for _, under := range [][]byte{old, make([]byte, 56)} {
		for n := 1; n < 49; n++ {
			refuseParse(t, "torn", append(bytes.Clone(now[:n]), under[n:]...), 2, 1)
		}
		wantParse(t, append(bytes.Clone(now[:49]), under[49:]...), 2, 1, 1, now[16:]) // no byte parts behind it
	}
}

func TestMemoryOfTheForms(t *testing.T) { // P13.6
	content := sheet(1, 258, 1, 5)
	want := pairOf(1, 258, content)
	given := spare(content)
	first, _ := pair.Make(1, given)
	second, _ := pair.Make(1, given)
	scribble(first)
	untouched(t, "Make", given, content)
	wantBytes(t, "the second", second, want)

	in := spare(want)
	_, one, _ := pair.Parse(in, 2, 1)
	_, two, _ := pair.Parse(in, 2, 1)
	three, four := pair.Bytes(in).Page(), pair.Bytes(in).Page()
	for i, b := range [][]byte{one, two, three, four} {
		wantBytes(t, "a page", b, content)
		scribble(b)
		untouched(t, "Parse and Page", in, want)
		if i == 0 {
			scribble(in[:0:16]) // the head is the caller's again: nobody has kept it
			copy(in, want)
		}
	}
	head := spare(want[:16])
	scribble(pair.Bytes(head).Page())
	untouched(t, "Page of a head", head, want[:16])
	short := spare(want[:9])
	scribble(pair.Bytes(short).Page())
	untouched(t, "Page of nine bytes", short, want[:9])
	refuseParse(t, "short", short, 2, 1)
	untouched(t, "Parse of nine bytes", short, want[:9])
	refuseMake(t, "short", 1, short)
	untouched(t, "Make of nine bytes", short, want[:9])
}
