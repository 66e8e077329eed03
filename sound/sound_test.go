package sound_test

import (
	"bytes"
	"slices"
	"testing"

	"tidemark/api"
	"tidemark/disk"
	"tidemark/master"
	"tidemark/sound"
)

func TestShape(t *testing.T) { // P27.1, rule 1: example 1; each bound of a shape, and one beyond; each part's bytes
	blank(t, small()).breaks("blank", 0)
	for _, s := range []api.Shape{shapeOf(1, 1, 1024), shapeOf(16, 8, 65536), shapeOf(1, 8, 1024), shapeOf(16, 1, 1024)} {
		blank(t, s).breaks("a bound of a shape", 0)
	}
	for _, s := range []api.Shape{shapeOf(0, 2, 1024), shapeOf(17, 2, 1024), shapeOf(-1, 2, 1024), shapeOf(2, 9, 1024), shapeOf(2, 0, 1024), shapeOf(2, -1, 1024), shapeOf(2, 2, 1023), shapeOf(2, 2, 65537), shapeOf(2, 2, -1), api.Shape{}} {
		w := blank(t, small())
		w.shape = s
		w.breaks("a shape that may not be", 1)
		if 0 < s.Pages && 0 < s.Slots {
			blank(t, s).breaks("a shape that may not be, its parts as it says", 1)
		}
	}
	for _, s := range []api.Shape{shapeOf(1, 2, 1024), shapeOf(3, 2, 1024), shapeOf(2, 1, 1024), shapeOf(2, 3, 1024)} {
		w := blank(t, small())
		w.shape = s
		w.breaks("another shape's", 1)
	}
	w := blank(t, small())
	w.m.Log = make([]byte, 1025)
	w.breaks("a log of 1025 bytes", 1)
	w = named(t, small(), 0)
	w.m.Log = make([]byte, 1025)
	w.breaks("a log of 1025 bytes, and a master", 1)
	w.m.Log = w.m.Log[:1024]
	w.breaks("a log of 1024 bytes, of no frame", 0)
	if got := sound.Check(small(), api.Image{}); got != 1 {
		t.Errorf("no image at all: %d", got)
	}
	if got := sound.Check(api.Shape{}, api.Image{}); got != 1 {
		t.Errorf("no shape, no image: %d", got)
	}
}

func TestParts(t *testing.T) { // P27.1, rule 1: each part with a byte less, a byte more, none
	parts := func(m *api.Image) []*[]byte {
		return []*[]byte{&m.Pages[0], &m.Pages[1], &m.Pair, &m.Masters[0], &m.Masters[1]}
	}
	for i := range 5 {
		for _, lay := range []func(b []byte) []byte{
			func(b []byte) []byte { return b[1:] },
			func(b []byte) []byte { return append(bytes.Clone(b), 0) },
			func([]byte) []byte { return nil },
		} {
			w := example(t)
			p := parts(&w.m)[i]
			*p = lay(*p)
			w.breaks("a part of another length", 1)
		}
	}
	w := example(t)
	w.m.Pages = w.m.Pages[:1]
	w.breaks("a page that is lacking", 1)
	w.m.Pages = nil
	w.breaks("no page", 1)
}

func TestNewDisk(t *testing.T) { // P27.1, rule 2: example 2; each byte of a page or the pair; whatever the masters' bytes are
	for _, masters := range [][2]int{{0, 0}, {7, 0}, {0, 7}, {7, 7}, {255, 1}} {
		lay := func() *world {
			w := blank(t, small())
			for k, x := range masters {
				copy(w.m.Masters[k], bytes.Repeat([]byte{byte(x)}, 20*(1+k)))
			}
			return w
		}
		lay().breaks("a new disk", 0)
		w := lay()
		w.m.Log = []byte{0}
		w.breaks("one byte in the log", 2)
		for i := range 56 {
			for number := range 2 {
				w = lay()
				w.m.Pages[number][i] = 1
				w.breaks("one byte in a page", 2)
			}
		}
		for i := range 72 {
			w = lay()
			w.m.Pair[i] = 128
			w.breaks("one byte in the pair", 2)
		}
		w = lay()
		w.page(1, 0, 0)
		w.breaks("a right page that is not zeros", 2)
		w = lay()
		w.inPair(0, 1, 0)
		w.breaks("a right pair", 2)
	}
}

func TestMasters(t *testing.T) { // P27.1, rule 2: the newest right master, in its place; each byte of one turned
	state := master.State{Turn: 3, Base: 50}
	lay := func() *world {
		w := blank(t, small())
		w.says(state)
		w.page(0, 40, 7)
		return w
	}
	lay().breaks("a master", 0)
	for i := range 40 {
		w := lay()
		w.m.Masters[1][i] ^= 4
		w.breaks("a master with a byte turned", 2)
	}
	w := lay()
	w.m.Masters[0], w.m.Masters[1] = w.m.Masters[1], w.m.Masters[0]
	w.breaks("a master in the other's place", 2)
	w = lay()
	w.says(master.State{Turn: 2, Base: 39})
	w.breaks("an older one beside it", 0)
	w.says(master.State{Turn: 4, Base: 39})
	w.breaks("a newer one beside it, whose base is below a page's LSN", 6)
	w.m.Masters[0][39]++
	w.breaks("the newer one is torn", 0)
	w.m.Masters[1][39]++
	w.breaks("both are torn", 2)
	w = lay()
	w.m.Masters[1] = masterOf(master.State{Turn: 1<<60 + 1})
	w.breaks("a turn that may not be", 2)
	w.m.Masters[1] = masterOf(master.State{Turn: 1, Base: 1<<60 + 1})
	w.breaks("a base that may not be", 2)
	w.m.Masters[1] = masterOf(master.State{Turn: 1, Check: -1})
	w.breaks("a checkpoint that may not be", 2)
	w.m.Masters[0] = masterOf(master.State{})
	w.breaks("the turn 0", 2)
}

func TestNumbers(t *testing.T) { // P27.1, rule 3: example 3; the greatest turn and base that may be, and those behind
	for _, c := range []struct {
		s    master.State
		want int
	}{
		{master.State{Turn: top}, 0}, {master.State{Turn: top - 1}, 0}, {master.State{Turn: top + 1}, 3}, {master.State{Turn: 1<<60 - 2}, 3}, {master.State{Turn: 1 << 60}, 3},
		{master.State{Turn: 1, Base: top}, 0}, {master.State{Turn: 1, Base: top - 1}, 0}, {master.State{Turn: 1, Base: top + 1}, 3}, {master.State{Turn: 1, Base: 1<<60 - 2}, 3}, {master.State{Turn: 1, Base: 1 << 60}, 3},
		{master.State{Turn: 1, Check: top + 1}, 5}, {master.State{Turn: 2, Check: 1 << 60}, 5},
		{master.State{Turn: top, Base: top}, 0}, {master.State{Turn: top + 1, Base: top + 1, Check: 1 << 60}, 3},
	} {
		w := blank(t, small())
		w.says(c.s)
		w.breaks("a master of great numbers", c.want)
		w.page(1, 0, 7)[20]++
		if c.want != 3 {
			c.want = 4
		}
		w.breaks("and a page that is not right", c.want)
	}
	w := blank(t, small())
	w.says(master.State{Turn: top})
	w.says(master.State{Turn: 1 << 60})
	w.breaks("a second one, newer", 3)
	w.says(master.State{Turn: 1 << 59})
	w.says(master.State{Turn: 1, Base: 1 << 60})
	w.breaks("a second one, older", 0)
}

func TestPages(t *testing.T) { // P27.1, rule 4: example 3; each byte of each page turned, with the page in the pair and without
	s := api.Shape{Pages: 4, Slots: 1, Log: 1024}
	for number := range 4 {
		for i := range 40 {
			w := named(t, s, 50)
			w.page(number, 40, 7)[i]++
			w.breaks("a page with a byte turned", 4)
			w.inPair(number, 45, 3)
			w.breaks("and it is in the pair", 0)
			w.inPair((number+1)%4, 45, 3)
			w.breaks("another is in the pair", 4)
			w.inPair(number, 45, 3)
			w.m.Pair[16+i]++
			w.breaks("the pair is not right", 4)
			w.inPair(number, 45, 3)
			w.m.Pages[(number+1)%4][i] = 1
			w.breaks("two that are not right", 4)
		}
	}
	w := named(t, small(), 0)
	w.m.Pages[1][55] = 1
	w.breaks("page 1's last byte", 4)
	w = named(t, s, 50)
	w.m.Pages[1] = w.sheet(2, 40, 0)
	w.breaks("a page of another number", 4)
	w.m.Pages[1] = w.sheet(1, 1<<60+1, 0)
	w.breaks("an LSN that may not be", 4)
	w.m.Pages[1] = w.sheet(1, -1, 0)
	w.breaks("an LSN below 0", 4)
}

func TestPairHead(t *testing.T) { // P27.1, rule 4: which pairs are right
	lay := func(p []byte) *world {
		w := named(t, small(), 50)
		w.page(1, 40, 7)[30]++
		w.m.Pair = p
		return w
	}
	b := example(t).sheet(1, 45, 3)
	lay(pairOf(1, b)).breaks("a right pair", 0)
	for i := range 16 {
		p := pairOf(1, b)
		p[i] ^= 2
		want := 4
		if i >= 12 {
			want = 0
		}
		lay(p).breaks("a pair whose head has a byte turned", want)
	}
	lay(pairOf(1, example(t).sheet(1, 0, 3))).breaks("a pair with the LSN 0", 4)
	lay(make([]byte, 72)).breaks("an empty pair", 4)
	w := named(t, small(), 50)
	w.inPair(0, 45, 3)
	w.m.Pair[71]++
	w.breaks("a pair that is not right, and all pages are", 0)
	w.inPair(2, 45, 3)
	w.breaks("a pair of a page that the disk has not", 0)
	w.m.Pages[1][0] = 1
	w.breaks("and a page that is not right", 4)
}

func TestLog(t *testing.T) { // P27.1, rule 5: example 5; what Analyse refuses, with the base and the check of the newest master
	example(t).breaks("the example", 0)
	for _, check := range []int{1, 35, 165, 198, 1 << 60} {
		w := example(t)
		w.says(master.State{Turn: 1, Check: check})
		w.breaks("a checkpoint that is none", 5)
		w.page(0, 198, 1)
		w.breaks("and a page ahead of the log", 5)
		w.says(master.State{Turn: 2})
		w.breaks("a newer master, without a checkpoint", 6)
	}
	w := named(t, small(), 0)
	w.says(master.State{Turn: 1, Check: 1})
	w.breaks("a checkpoint, and no log", 5)
	w.log(api.Record{Kind: api.KCheck})
	w.breaks("a checkpoint", 0)
	w.says(master.State{Turn: 2, Check: 2})
	w.breaks("a checkpoint beside it", 5)
	for _, c := range []struct {
		what string
		lay  func(w *world)
	}{
		{"a second commit", func(w *world) { w.commit(91) }},
		{"a number that is there", func(w *world) { w.begin(1) }},
		{"a page that the disk has not", func(w *world) { w.update(1, 2, 16, 1, 1) }},
		{"a slot that the pages have not", func(w *world) { w.update(1, 0, 48, 1, 1) }},
		{"an end with an update left", func(w *world) { w.end(1) }},
		{"a checkpoint without its rows", func(w *world) { w.log(api.Record{Kind: api.KCheck}) }},
	} {
		w := example(t)
		c.lay(w)
		w.breaks(c.what, 5)
	}
	w = example(t)
	w.update(1, 0, 47, 1, 1)
	w.breaks("a page's last byte", 0)
	w.shape = api.Shape{Pages: 2, Slots: 2, Log: 2048}
	w.breaks("in a greater log area", 0)
}

func TestLogOfAnotherBase(t *testing.T) { // P27.1: old frames whose LSNs don't fit the base are behind an empty beginning
	w := example(t)
	w.commit(91) // refused, if it were looked at
	w.says(master.State{Turn: 2, Base: 70})
	w.breaks("a log that a renewed master has left behind", 0)
	w.page(1, 70, 1)
	w.breaks("a page at the base", 0)
	w.page(1, 71, 1)
	w.breaks("a page at the next LSN", 6)
}

func TestAhead(t *testing.T) { // P27.1, rule 6: example 4; the greatest LSN of a page, of a pair, and the next
	for _, base := range []int{0, 1000} {
		for _, behind := range []int{0, 1, 300} {
			for _, records := range []int{0, 1, 3} {
				for _, lsn := range []int{-1, 0, 1, 2, 40, 301} {
					lay := func() *world {
						w := named(t, small(), base)
						for id := range records {
							w.begin(1 + id)
						}
						return w
					}
					want := 0
					if lsn > 0 {
						want = 6
					}
					at := base + 34*records + lsn
					if at < 0 {
						continue
					}
					bytesBehind := bytes.Repeat([]byte{9}, behind)
					for number := range 2 {
						w := lay()
						w.page(number, at, 3)
						w.m.Log = append(w.m.Log, bytesBehind...)
						w.breaks("a page", want)
						if at == 0 {
							continue
						}
						w = lay()
						w.inPair(number, at, 3)
						w.m.Log = append(w.m.Log, bytesBehind...)
						w.breaks("a pair", want)
						w.page(number, min(at, base), 3)
						w.breaks("a pair, and an older page in its place", want)
						w.m.Pages[number][33]++
						w.breaks("a pair, and a page that is not right in its place", want)
					}
				}
			}
		}
	}
}

func TestAheadCountsWhatIsRight(t *testing.T) { // P27.1, rule 6: a page that the pair would lay over counts; one that is not right does not, nor a pair that is not
	w := example(t)
	w.inPair(0, 35, 1)
	w.page(0, 198, 1)
	w.breaks("a page ahead of the log, an older one in the pair", 6)
	w.m.Pages[0][20]++
	w.breaks("it is not right", 0)
	w.page(0, 35, 1)
	w.inPair(0, 198, 1)
	w.breaks("a pair ahead of the log", 6)
	w.m.Pair[40]++
	w.breaks("it is not right", 0)
	w.inPair(2, 198, 1)
	w.breaks("it is of a page that the disk has not", 0)
	w.inPair(0, 197, 1)
	w.page(1, 198, 1)
	w.breaks("another page is ahead", 6)
	w.page(1, 1<<60, 1)
	w.breaks("the greatest LSN", 6)
}

func TestRoom(t *testing.T) { // P27.1, rule 7: example 6: so many updates of 16 bytes, of a loser and of a winner
	for n := range 15 {
		w := named(t, small(), 0)
		a := w.begin(1)
		for i := range n {
			w.update(a, 0, 16, 16, byte(i+1))
		}
		want := 0
		if 34+n*(70+62)+33 > 1024 {
			want = 7
		}
		w.breaks("a loser's updates", want)
		if len(w.m.Log)+33 > 1024 {
			continue
		}
		w.commit(a)
		want = 0
		if 34+n*70+33+33 > 1024 {
			want = 7
		}
		w.breaks("a winner's updates", want)
	}
}

// longLogs gives logs of more than 1024 bytes at a restart's end, and how many bytes more each has there.
func longLogs() map[string]func(w *world) int {
	return map[string]func(w *world) int{
		"a loser's updates": func(w *world) int {
			a := w.begin(1)
			more := 33
			for i := range 20 {
				w.update(a, i%2, 16+i, 1+i%5, 7)
				more += 46 + 1 + i%5
			}
			return more
		},
		"updates of which some are undone": func(w *world) int {
			a := w.begin(1)
			var all []int
			for i := range 16 {
				all = append(all, w.update(a, 0, 16, 2+i, byte(i+1)))
			}
			w.abort(a)
			for i := 15; i >= 6; i-- {
				w.undo(a, 0, 16, 2+i, all[i-1])
			}
			more := 33
			for i := range 6 {
				more += 46 + 2 + i
			}
			return more
		},
		"eight that are open, without updates": func(w *world) int {
			for range 12 {
				w.end(w.begin(9))
			}
			for id := range 8 {
				w.begin(1 + id)
			}
			return 8 * 33
		},
		"losers and winners, none over": func(w *world) int {
			a, b, c := w.begin(1), w.begin(2), w.begin(3)
			more := 3 * 33
			for i := range 7 {
				w.update(a, 0, 16, 1+i, 9)
				w.update(b, 1, 40, 8, 9)
				more += 46 + 1 + i
			}
			w.commit(b)
			w.abort(c)
			return more
		},
		"all are over": func(w *world) int {
			for range 18 {
				w.end(w.begin(9))
			}
			return 0
		},
	}
}

func TestRoomToTheByte(t *testing.T) { // P27.1, rule 7: the area has just as many bytes as the log at the restart's end, or some more or less; the next base is just the greatest, or beyond
	for what, lay := range longLogs() {
		for over := -2; over <= 2; over++ {
			w := named(t, small(), 500)
			n := lay(w)
			n += len(w.m.Log)
			if n < 1026 {
				t.Fatalf("%s: only %d bytes", what, n)
			}
			w.shape.Log = n + over
			want := 0
			if len(w.m.Log) > w.shape.Log {
				want = 1
			} else if over < 0 {
				want = 7
			}
			w.breaks(what, want)

			w = named(t, api.Shape{Pages: 2, Slots: 2, Log: 8000}, top-n+over)
			lay(w)
			want = 0
			if over > 0 {
				want = 7
			}
			w.breaks(what+", at the end of all numbers", want)
		}
	}
}

// breakable gives an image of which each rule can be broken by itself.
func breakable(t *testing.T) *world {
	t.Helper()
	w := named(t, small(), 100)
	a := w.begin(1)
	for i := range 6 {
		w.update(a, 0, 16, 16, byte(i+1))
	}
	w.page(1, 90, 1)
	return w
}

func TestFirstOfMany(t *testing.T) { // P27.1: of all that are broken the first is told: each set of rules
	ways := []func(w *world){
		func(w *world) { w.m.Masters[0] = nil },
		func(w *world) { w.m.Masters[1] = bytes.Repeat([]byte{1}, 40) },
		nil, // a master's Turn: below
		func(w *world) { w.m.Pages[1][20]++ },
		func(w *world) { w.end(101) }, // the updates are left
		func(w *world) { w.page(0, 2000, 1) },
		func(w *world) { w.shape.Log = 1024 },
	}
	for set := range 1 << 7 {
		if set&2 != 0 && set&4 != 0 { // without a master it has no turn
			continue
		}
		w := breakable(t)
		w.shape.Log = 2000
		if set&64 != 0 { // more updates than can be undone in 1024 bytes
			w.update(101, 0, 16, 16, 9)
			w.update(101, 0, 16, 16, 10)
			w.update(101, 0, 16, 16, 11)
		}
		if set&4 != 0 {
			w.says(master.State{Turn: top + 1, Base: 100})
		}
		want := 0
		for i, lay := range ways {
			if set&(1<<i) == 0 {
				continue
			}
			if lay != nil {
				lay(w)
			}
			if want == 0 {
				want = i + 1
			}
		}
		w.breaks("a set of broken rules", want)
		if t.Failed() {
			t.Fatalf("the set %b", set)
		}
	}
}

func TestRules(t *testing.T) { // P27.2: seven names of small letters, none twice
	l := sound.Rules()
	if len(l) != 7 {
		t.Fatalf("%d rules: %q", len(l), l)
	}
	seen := map[string]bool{}
	for _, name := range l {
		if name == "" || seen[name] {
			t.Errorf("%q", name)
		}
		seen[name] = true
		for _, c := range name {
			if c < 'a' || c > 'z' {
				t.Errorf("%q", name)
			}
		}
	}
}

func TestRulesAreNewMemory(t *testing.T) { // P27.4
	want := slices.Clone(sound.Rules())
	l := sound.Rules()
	l = l[:cap(l)]
	for i := range l {
		l[i] = "x"
	}
	if got := sound.Rules(); !slices.Equal(got, want) {
		t.Errorf("behind a change of the list: %q, want %q", got, want)
	}
}

func TestNothingIsKept(t *testing.T) { // P27.4: what is handed in may be changed behind a call, and is looked at anew
	w := example(t)
	s, m := w.shape, w.m
	for range 3 {
		for want, lay := range []func(){
			func() {},
			func() { m.Pages = append(m.Pages, m.Pair) },
			func() { m.Pages = m.Pages[:2]; m.Masters[1][39]++ },
			func() { m.Masters[1] = masterOf(master.State{Turn: top + 1}) },
			func() { m.Masters[1] = masterOf(master.State{Turn: 1}); m.Pages[0][30]++ },
			func() { m.Pages[0][30]--; m.Masters[1] = masterOf(master.State{Turn: 1, Check: 9}) },
			func() {
				m.Masters[1] = masterOf(master.State{Turn: 1})
				copy(m.Pages[0], sheet(0, 198, make([]byte, 32)))
			},
		} {
			lay()
			if got := check(t, s, m); got != want {
				t.Errorf("changed: %d, want %d", got, want)
			}
		}
		copy(m.Pages[0], make([]byte, 56))
	}
}

func TestDiskStaysAsItIs(t *testing.T) { // P27.4: an image of a disk is looked at without one act
	w := example(t)
	d, e := disk.Load(w.shape, w.m)
	ok(t, "Load", e)
	if got := sound.Check(d.Shape(), d.Image()); got != 0 || d.Acts() != 0 || !sameImage(d.Image(), w.m) {
		t.Errorf("%d; %d acts", got, d.Acts())
	}
}
