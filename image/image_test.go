package image_test

import (
	"bytes"
	"math"
	"math/rand"
	"testing"

	"tidemark/api"
	"tidemark/image"
)

// room is how many marked bytes spare leaves behind a list.
const room = 16

// spare gives a text's bytes with room behind them that holds marks: whoever writes there is found out by untouched.
func spare(text string) []byte {
	b := append([]byte(text), bytes.Repeat([]byte{0xa5}, room)...)
	return b[:len(text)]
}

func untouched(t *testing.T, b []byte, want string) {
	t.Helper()
	if string(b) != want || !bytes.Equal(b[len(b):len(b)+room], bytes.Repeat([]byte{0xa5}, room)) {
		t.Errorf("what was handed in was changed: %q, want %q", b[:len(b)+room], want)
	}
}

// scribble writes over a list and its spare room.
func scribble(b []byte) {
	b = b[:cap(b)]
	for i := range b {
		b[i] ^= 0xff
	}
}

func wantPart(t *testing.T, a, b []byte, from, to int, wantErr api.Errno) {
	t.Helper()
	if f, u, e := image.Part(a, b); f != from || u != to || e != wantErr {
		t.Errorf("Part(%q, %q): %d, %d, %d, want %d, %d, %d", a, b, f, u, e, from, to, wantErr)
	}
}

func wantCut(t *testing.T, b string, from, to int, want string) {
	t.Helper()
	if r, e := image.Cut([]byte(b), from, to); string(r) != want || e != api.OK {
		t.Errorf("Cut(%q, %d, %d): %q, %d, want %q, OK", b, from, to, r, e, want)
	}
}

func refuseCut(t *testing.T, b []byte, from, to int) {
	t.Helper()
	if r, e := image.Cut(b, from, to); len(r) != 0 || e != api.ErrRange {
		t.Errorf("Cut(%q, %d, %d): %q, %d, want none, ErrRange", b, from, to, r, e)
	}
}

func wantLay(t *testing.T, b string, from int, r, want string) {
	t.Helper()
	if l, e := image.Lay([]byte(b), from, []byte(r)); string(l) != want || e != api.OK {
		t.Errorf("Lay(%q, %d, %q): %q, %d, want %q, OK", b, from, r, l, e, want)
	}
}

func refuseLay(t *testing.T, b []byte, from int, r []byte) {
	t.Helper()
	if l, e := image.Lay(b, from, r); len(l) != 0 || e != api.ErrRange {
		t.Errorf("Lay(%q, %d, %q): %q, %d, want none, ErrRange", b, from, r, l, e)
	}
}

func cut(t *testing.T, b []byte, from, to int) []byte {
	t.Helper()
	r, e := image.Cut(b, from, to)
	if e != api.OK {
		t.Fatalf("Cut(%q, %d, %d): %d", b, from, to, e)
	}
	return r
}

func lay(t *testing.T, b []byte, from int, r []byte) []byte {
	t.Helper()
	l, e := image.Lay(b, from, r)
	if e != api.OK {
		t.Fatalf("Lay(%q, %d, %q): %d", b, from, r, e)
	}
	return l
}

func TestPart(t *testing.T) { // P3.1
	for _, c := range []struct {
		a, b     string
		from, to int
	}{
		{"abcdef", "abXdYf", 2, 5},
		{"a", "b", 0, 1},
		{"abc", "abd", 2, 3},
		{"abc", "xbc", 0, 1},
		{"abc", "axc", 1, 2},
		{"abc", "xbz", 0, 3},
		{"abc", "xyz", 0, 3},
		{"\x00\x00\x00", "\x00\x80\x00", 1, 2},
		{"\x00\xff", "\x01\xff", 0, 1},
		{"\xff\xff", "\xff\x7f", 1, 2},
	} {
		wantPart(t, []byte(c.a), []byte(c.b), c.from, c.to, api.OK)
		wantPart(t, []byte(c.b), []byte(c.a), c.from, c.to, api.OK)
	}
}

func TestPartOfAlikeLists(t *testing.T) { // P3.1
	wantPart(t, nil, nil, 0, 0, api.OK)
	wantPart(t, nil, []byte{}, 0, 0, api.OK)
	wantPart(t, []byte("ab"), []byte("ab"), 0, 0, api.OK)
	one := []byte("abc")
	wantPart(t, one, one, 0, 0, api.OK)
	// What stands in the spare room is no part of a list.
	wantPart(t, []byte("abcx")[:3], []byte("abcy")[:3], 0, 0, api.OK)
}

func TestPartOfEachPairOfPlaces(t *testing.T) { // P3.1
	const n = 12
	a := bytes.Repeat([]byte{7}, n)
	for first := range n {
		for last := first; last < n; last++ {
			b := bytes.Clone(a)
			b[first], b[last] = 8, 9
			wantPart(t, a, b, first, last+1, api.OK)
		}
	}
}

func TestPartOfUnlikeLengths(t *testing.T) { // P3.1
	for _, c := range [][2]string{{"ab", "abc"}, {"abc", "ab"}, {"", "a"}, {"a", ""}, {"xbc", "ab"}} {
		wantPart(t, []byte(c[0]), []byte(c[1]), 0, 0, api.ErrImage)
	}
	wantPart(t, []byte("abcd")[:2], []byte("abcd")[:3], 0, 0, api.ErrImage)
	wantPart(t, nil, []byte("a"), 0, 0, api.ErrImage)
}

func TestCut(t *testing.T) { // P3.2
	wantCut(t, "abcdef", 2, 5, "cde")
	wantCut(t, "abcdef", 0, 6, "abcdef")
	wantCut(t, "abcdef", 0, 1, "a")
	wantCut(t, "abcdef", 5, 6, "f")
	wantCut(t, "abc", 0, 0, "")
	wantCut(t, "abc", 1, 1, "")
	wantCut(t, "abc", 3, 3, "")
	wantCut(t, "", 0, 0, "")
	if r, e := image.Cut(nil, 0, 0); len(r) != 0 || e != api.OK {
		t.Errorf("Cut(nil, 0, 0): %q, %d", r, e)
	}
}

func TestCutRefuses(t *testing.T) { // P3.2
	b := spare("abc") // the room behind the bytes is none of them
	for _, c := range [][2]int{
		{2, 1}, {1, 0}, {3, 2}, {-1, 2}, {-1, -1}, {-1, 0}, {-2, -1}, {0, -1},
		{0, 4}, {3, 4}, {4, 4}, {4, 5}, {5, 4}, {4, 3},
		{math.MinInt, math.MaxInt}, {math.MaxInt, math.MinInt}, {math.MinInt, math.MinInt}, {math.MaxInt, math.MaxInt},
		{0, math.MaxInt}, {0, math.MinInt}, {math.MinInt, 3}, {math.MaxInt, 3},
	} {
		refuseCut(t, b, c[0], c[1])
	}
	refuseCut(t, nil, 0, 1)
	refuseCut(t, nil, 1, 1)
	refuseCut(t, nil, -1, 0)
}

func TestLay(t *testing.T) { // P3.3
	wantLay(t, "abcdef", 2, "XY", "abXYef")
	wantLay(t, "abcdef", 0, "X", "Xbcdef")
	wantLay(t, "abcdef", 5, "X", "abcdeX")
	wantLay(t, "abcdef", 4, "XY", "abcdXY")
	wantLay(t, "abc", 0, "xyz", "xyz")
	wantLay(t, "a", 0, "\x00", "\x00")
}

func TestLayOfNothing(t *testing.T) { // P3.3
	for from := range 4 {
		wantLay(t, "abc", from, "", "abc")
	}
	wantLay(t, "", 0, "", "")
	if l, e := image.Lay(nil, 0, nil); len(l) != 0 || e != api.OK {
		t.Errorf("Lay(nil, 0, nil): %q, %d", l, e)
	}
}

func TestLayRefuses(t *testing.T) { // P3.3
	b := spare("abc")
	for _, r := range []string{"", "x", "xyz"} {
		for _, from := range []int{-1, -2, -3, -4, math.MinInt, math.MinInt + 1, 4, 5, math.MaxInt, math.MaxInt - 1, math.MaxInt - 3} {
			refuseLay(t, b, from, []byte(r))
		}
	}
	refuseLay(t, b, 2, []byte("xy"))
	refuseLay(t, b, 3, []byte("x"))
	refuseLay(t, b, 1, []byte("xyz"))
	refuseLay(t, b, 0, []byte("wxyz"))
	refuseLay(t, nil, 0, []byte("x"))
	refuseLay(t, nil, 1, nil)
	refuseLay(t, nil, -1, nil)
	refuseLay(t, nil, -1, []byte("x")) // laid so, it would end at b's end: its beginning lies ahead of b
	refuseLay(t, b, -3, []byte("vwxyz"))
	untouched(t, b, "abc")
}

func TestWhatIsHandedInStays(t *testing.T) { // P3.4
	a, b, r := spare("abcdef"), spare("abXdYf"), spare("uv")
	image.Part(a, b)
	image.Part(a, r)
	image.Cut(a, 2, 5)
	image.Cut(a, 0, 7)
	image.Lay(a, 2, r)
	image.Lay(a, 4, r)
	image.Lay(a, 6, nil)
	image.Lay(a, 5, r)
	untouched(t, a, "abcdef")
	untouched(t, b, "abXdYf")
	untouched(t, r, "uv")
}

func TestAnswersAreNewMemory(t *testing.T) { // P3.4
	b, r := spare("abc"), spare("xyz")
	var answers [][]byte
	for from := range 4 {
		for to := from; to < 4; to++ {
			answers = append(answers, cut(t, b, from, to))
		}
		answers = append(answers, lay(t, b, from, nil), lay(t, b, from, r[:3-from]))
	}
	var before []string
	for _, a := range answers {
		before = append(before, string(a))
	}
	for i, a := range answers {
		scribble(a)
		untouched(t, b, "abc")
		untouched(t, r, "xyz")
		for k := i + 1; k < len(answers); k++ {
			if string(answers[k]) != before[k] {
				t.Fatalf("answers %d and %d share memory", i, k)
			}
		}
	}
}

func TestWhatIsHandedInIsNotKept(t *testing.T) { // P3.4
	b, r := spare("abc"), spare("x")
	whole, piece, laid, alike := cut(t, b, 0, 3), cut(t, b, 1, 2), lay(t, b, 1, r), lay(t, b, 3, nil)
	scribble(b)
	scribble(r)
	if string(whole) != "abc" || string(piece) != "b" || string(laid) != "axc" || string(alike) != "abc" {
		t.Errorf("answers follow what was handed in: %q, %q, %q, %q", whole, piece, laid, alike)
	}
}

func TestListsThatShareMemory(t *testing.T) { // P3.4
	b := spare("abcdef")
	if l := lay(t, b, 1, b[:4]); string(l) != "aabcdf" {
		t.Errorf("a beginning laid over its own list: %q", l)
	}
	if l := lay(t, b, 0, b[2:5]); string(l) != "cdedef" {
		t.Errorf("a middle laid over its own list: %q", l)
	}
	wantPart(t, b[:3], b[3:6], 0, 3, api.OK)
	untouched(t, b, "abcdef")
}

// some gives n bytes out of few kinds, so that lists agree at many places.
func some(dice *rand.Rand, n int) []byte {
	b := make([]byte, n)
	for i := range b {
		b[i] = byte(dice.Intn(3))
	}
	return b
}

// leadsOver tells whether that range of b, laid over a, gives b.
func leadsOver(t *testing.T, a, b []byte, from, to int) bool {
	t.Helper()
	return bytes.Equal(lay(t, a, from, cut(t, b, from, to)), b)
}

func TestPartLeadsFromOneToTheOther(t *testing.T) { // P3.5
	dice := rand.New(rand.NewSource(3))
	for i := range 400 {
		n := i % 10
		a, b := some(dice, n), some(dice, n)
		from, to, e := image.Part(a, b)
		if e != api.OK {
			t.Fatalf("Part(% x, % x): %d", a, b, e)
		}
		for f := range n + 1 {
			for u := f; u <= n; u++ {
				want := f <= from && to <= u || from == to
				if got := leadsOver(t, a, b, f, u); got != want {
					t.Fatalf("Part(% x, % x) is %d, %d; but over the range %d, %d: %t", a, b, from, to, f, u, got)
				}
				if got := leadsOver(t, b, a, f, u); got != want {
					t.Fatalf("Part(% x, % x) is %d, %d; but back over the range %d, %d: %t", a, b, from, to, f, u, got)
				}
			}
		}
	}
}

func TestWhatIsLaidIsCutAgain(t *testing.T) { // P3.5
	dice := rand.New(rand.NewSource(4))
	for n := range 12 {
		b := some(dice, n)
		for from := range n + 1 {
			for k := range n - from + 1 {
				r := bytes.Repeat([]byte{9}, k)
				l := lay(t, b, from, r)
				if len(l) != n || !bytes.Equal(cut(t, l, from, from+k), r) {
					t.Fatalf("Lay(% x, %d, % x): % x", b, from, r, l)
				}
				if !bytes.Equal(l[:from], b[:from]) || !bytes.Equal(l[from+k:], b[from+k:]) {
					t.Fatalf("Lay(% x, %d, % x) changed more: % x", b, from, r, l)
				}
			}
		}
	}
}
