package restart_test

import (
	"bytes"
	"testing"

	"tidemark/api"
	"tidemark/master"
)

func TestMostTurn(t *testing.T) { // P25.2, P25.3: the last turn that may be, and those behind it
	for _, turn := range []int{top - 1, top} {
		w := made(t, small())
		w.says(master.State{Turn: turn})
		w.takes("a great turn", master.State{Turn: turn + 1}, api.Report{})
	}
	for _, turn := range []int{top + 1, top + 2, 1<<60 - 2, 1 << 60} {
		w := made(t, small())
		w.says(master.State{Turn: turn})
		w.corrupt("a turn that is too great")
	}
	// Behind the last turn that may be a second Run is refused.
	w := made(t, small())
	w.says(master.State{Turn: top})
	d := w.load()
	runs(t, d, 2, api.Aries, api.Report{}, master.State{Turn: top + 1})
	for _, manager := range []int{api.Aries, api.Choose} {
		if _, e := run(t, d, 2, manager); e != api.ErrCorrupt {
			t.Errorf("a second Run: %d", e)
		}
	}
}

func TestMostBase(t *testing.T) { // P25.2: the greatest base that may be, with no log; with one, the greatest next base
	for _, base := range []int{top - 1, top} {
		named(t, small(), base).takes("a great base", master.State{Turn: 2, Base: base}, api.Report{})
	}
	for _, base := range []int{top + 1, 1<<60 - 1<<17, 1<<60 - 2, 1 << 60} {
		named(t, small(), base).corrupt("a base that is too great")
	}
	// A begin (34), a commit (33), and the end that is lacking (33).
	for more := range 3 {
		w := named(t, small(), top-100+more)
		birth := w.begin(3)
		w.commit(birth)
		if more > 0 {
			w.corrupt("a next base that is too great")
			continue
		}
		w.takes("the greatest next base", master.State{Turn: 2, Base: top}, api.Report{Winners: []int{birth}, Ends: 1})
	}
	// An update of 5 bytes (48), its compensation (51), an end (33).
	for more := range 3 {
		w := named(t, small(), top-166+more)
		birth := w.begin(3)
		w.update(birth, 0, 16, 5, 1)
		if more > 0 {
			w.corrupt("a next base that is too great")
			continue
		}
		w.takes("the greatest next base", master.State{Turn: 2, Base: top}, api.Report{Losers: []int{birth}, Undone: 1, Ends: 1})
	}
	w := named(t, small(), top-67)
	w.end(w.begin(3))
	w.takes("nothing is appended", master.State{Turn: 2, Base: top}, api.Report{})
}

func TestTornPage(t *testing.T) { // P25.2: example 5: a page that is not right, in a right pair, or not; each tear
	now := example(t).page(1, 125, 16, 1)
	was := sheet(1, 77, bytes.Repeat([]byte{9}, 32))
	for n := range len(now) + 1 {
		w := example(t)
		w.m.Pages[1] = append(bytes.Clone(now[:n]), was[n:]...)
		isTorn := !bytes.Equal(w.m.Pages[1], now) && !bytes.Equal(w.m.Pages[1], was)
		w.m.Pair = pairOf(1, now)
		d := w.load()
		runs(t, d, 2, api.Choose, exampleReport(0), master.State{Turn: 2, Base: 318})
		if b := d.Image().Pages[1]; !bytes.Equal(b, now) {
			t.Errorf("torn behind %d: % x", n, b)
		}
		if !isTorn {
			continue
		}
		w.m.Pair = pairOf(0, sheet(0, 35, make([]byte, 32)))
		w.corrupt("a torn page, another in the pair")
		w.m.Pair = make([]byte, 72)
		w.corrupt("a torn page, nothing in the pair")
		w.m.Pair = pairOf(1, now)
		w.m.Pair[71]++
		w.corrupt("a torn page, and the pair is torn")
		w.m.Pair = pairOf(1, now)
		w.m.Pages[0] = bytes.Repeat([]byte{1}, 56)
		w.corrupt("two pages that are not right")
	}
}

func TestPageThatIsNotRight(t *testing.T) { // P25.2: each page of several, each of its bytes; a page that stands in another's place
	s := api.Shape{Pages: 4, Slots: 1, Log: 1024}
	for number := range 4 {
		w := named(t, s, 50)
		b := w.page(number, 40, 20, 7)
		w.takes("a page of one LSN", master.State{Turn: 2, Base: 50}, api.Report{})
		for i := range b {
			b[i]++
			w.corrupt("a page with a byte turned")
			b[i]--
		}
		w.m.Pages[number] = sheet((number+1)%4, 40, make([]byte, 16))
		w.corrupt("a page of another number")
		w.m.Pages[number] = sheet(number, 1<<60+1, make([]byte, 16))
		w.corrupt("a page with an LSN that is none")
	}
}

func TestPair(t *testing.T) { // P25.2, step 4: a right pair is copied to its place; one that is neither right nor zeros is written full of zeros
	older := sheet(0, 20, append([]byte{5}, make([]byte, 31)...))
	for _, manager := range []int{api.Aries, api.Choose} {
		w := named(t, small(), 50)
		w.page(0, 40, 16, 7)
		w.m.Pair = pairOf(0, older)
		d := w.load()
		runs(t, d, 2, manager, api.Report{}, master.State{Turn: 2, Base: 50})
		if m := d.Image(); !bytes.Equal(m.Pages[0], older) || !bytes.Equal(m.Pair, w.m.Pair) {
			t.Errorf("by %d: a right pair: % x, % x", manager, m.Pages[0], m.Pair)
		}
		for _, n := range []int{1, 8, 9, 16, 17, 40, 64} {
			w.m.Pair = append(bytes.Clone(pairOf(0, older)[:n]), make([]byte, 72-n)...)
			d := w.load()
			runs(t, d, 2, manager, api.Report{}, master.State{Turn: 2, Base: 50})
			if m := d.Image(); !isZeros(m.Pair) || !bytes.Equal(m.Pages[0], w.m.Pages[0]) {
				t.Errorf("by %d: %d bytes of a pair: % x, % x", manager, n, m.Pages[0], m.Pair)
			}
		}
		w.m.Pair = pairOf(0, sheet(0, 0, make([]byte, 32)))
		d = w.load()
		runs(t, d, 2, manager, api.Report{}, master.State{Turn: 2, Base: 50})
		if m := d.Image(); !isZeros(m.Pair) || !bytes.Equal(m.Pages[0], w.m.Pages[0]) {
			t.Errorf("by %d: a pair with the LSN 0: % x, % x", manager, m.Pages[0], m.Pair)
		}
	}
}

func TestCorruptLog(t *testing.T) { // P25.2: what Analyse refuses; the checkpoint's place (example 6's first half)
	w := made(t, small())
	w.says(master.State{Turn: 1, Check: 500})
	w.corrupt("a checkpoint that isn't there")
	w = example(t)
	w.says(master.State{Turn: 1, Check: 35})
	w.corrupt("a checkpoint that is none")
	w = example(t)
	w.commit(91)
	w.corrupt("a second commit")
	w = example(t)
	w.begin(1)
	w.corrupt("a number that is there")
	w = example(t)
	w.update(1, 2, 16, 1, 1)
	w.corrupt("a page that the disk has not")
	w = example(t)
	w.update(1, 0, 48, 1, 1)
	w.corrupt("a slot that the pages have not")
	w = example(t)
	w.end(1)
	w.corrupt("an end with an update left")
	w = example(t)
	w.log(api.Record{Kind: api.KCheck})
	w.corrupt("a checkpoint without its rows")
}

func TestAheadOfTheLog(t *testing.T) { // P25.2, W6: the LSN of a page, of a pair: the greatest that may be, and the next
	for _, base := range []int{0, 1000} {
		for _, behind := range []int{0, 1, 300} {
			for _, records := range []int{0, 1} {
				lay := func(lsn int, inPair bool) *world {
					w := named(t, small(), base)
					if records > 0 {
						w.end(w.begin(3))
					}
					a := len(w.m.Log)
					w.m.Log = append(w.m.Log, bytes.Repeat([]byte{7}, behind)...) // behind the beginning
					b := sheet(1, base+a+lsn, make([]byte, 32))
					if inPair {
						w.m.Pair = pairOf(1, b)
						w.page(1, 1, 16, 1)
					} else {
						w.m.Pages[1] = b
					}
					return w
				}
				for _, inPair := range []bool{false, true} {
					for lsn := range 3 {
						w := lay(lsn, inPair)
						if lsn > 0 || base == 0 && records == 0 && inPair {
							w.corrupt("ahead of the log")
						} else {
							w.takes("not ahead of the log", master.State{Turn: 2, Base: base + 67*records}, api.Report{})
						}
					}
				}
			}
		}
	}
	// Of a page in its place, too, that the pair would lay over.
	w := example(t)
	w.m.Pair = pairOf(0, sheet(0, 35, make([]byte, 32)))
	w.page(0, 198, 16, 1)
	w.corrupt("a page ahead of the log, an older one in the pair")
	w.page(0, 197, 16, 1)
	w.takes("a page at the log's end, an older one in the pair", master.State{Turn: 2, Base: 318}, exampleReport(0))
	// And of a pair, where the page in its place is not right.
	w = example(t)
	w.m.Pages[1] = bytes.Repeat([]byte{1}, 56)
	w.m.Pair = pairOf(1, sheet(1, 198, make([]byte, 32)))
	w.corrupt("a pair ahead of the log, its page not right")
	w.m.Pair = pairOf(1, sheet(1, 197, make([]byte, 32)))
	w.takes("a pair at the log's end, its page not right", master.State{Turn: 2, Base: 318}, exampleReport(0))
}

// longLog is a log, with how many bytes more it has at a restart's end.
type longLog struct {
	what string
	lay  func(w *world) (more int, want api.Report)
}

// longLogs gives logs of more than 1024 bytes at their ends.
func longLogs() []longLog {
	return []longLog{
		{"a loser's updates", func(w *world) (int, api.Report) {
			a := w.begin(1)
			more := 33
			for i := range 20 {
				w.update(a, i%2, 16+i, 1+i%5, 7)
				more += 46 + 1 + i%5
			}
			return more, api.Report{Losers: []int{a}, Undone: 20, Ends: 1}
		}},
		{"a winner's updates", func(w *world) (int, api.Report) {
			a := w.begin(1)
			for i := range 24 {
				w.update(a, i%2, 16+i, 3, 7)
			}
			w.commit(a)
			return 33, api.Report{Winners: []int{a}, Ends: 1}
		}},
		{"updates of which some are undone", func(w *world) (int, api.Report) {
			a := w.begin(1)
			var all []int
			for i := range 16 {
				all = append(all, w.update(a, 0, 16, 2+i, byte(i+1)))
			}
			w.abort(a)
			more := 33
			for i := 15; i >= 6; i-- {
				w.undo(a, 0, 16, 2+i, all[i-1])
			}
			for i := range 6 {
				more += 46 + 2 + i
			}
			return more, api.Report{Losers: []int{a}, Undone: 6, Ends: 1}
		}},
		{"eight that are open, without updates", func(w *world) (int, api.Report) {
			for range 12 {
				w.end(w.begin(9))
			}
			var want api.Report
			for id := range 8 {
				want.Losers = append(want.Losers, w.begin(1+id))
			}
			want.Ends = 8
			return 8 * 33, want
		}},
		{"losers and winners, none over", func(w *world) (int, api.Report) {
			a, b, c := w.begin(1), w.begin(2), w.begin(3)
			more := 3 * 33
			for i := range 7 {
				w.update(a, 0, 16, 1+i, 9)
				w.update(b, 1, 40, 8, 9)
				more += 46 + 1 + i
			}
			w.commit(b)
			w.abort(c)
			return more, api.Report{Winners: []int{b}, Losers: []int{a, c}, Undone: 7, Ends: 3}
		}},
	}
}

func TestRoom(t *testing.T) { // P25.2: example 7's rule: at the restart's end the log has just as many bytes as the area, or some more or less
	for _, c := range longLogs() {
		for over := -2; over <= 2; over++ {
			w := named(t, small(), 500)
			more, want := c.lay(w)
			n := len(w.m.Log) + more
			if n < 1026 {
				t.Fatalf("%s: only %d bytes", c.what, n)
			}
			w.shape.Log = n + over
			if over < 0 {
				w.corrupt(c.what)
			} else {
				w.takes(c.what, master.State{Turn: 2, Base: 500 + n}, want)
			}
		}
	}
}

func TestRoomWhereNothingIsAppended(t *testing.T) { // P25.2: a log that fills the area, and of which all are over
	w := named(t, small(), 0)
	for range 15 {
		w.end(w.begin(3))
	}
	w.log(api.Record{Kind: api.KCheck})
	w.shape.Log = len(w.m.Log)
	w.takes("a full log", master.State{Turn: 2, Base: 1040}, api.Report{})
}

func TestNoRoomForTheCompensations(t *testing.T) { // P25.2: example 7
	w := named(t, small(), 0)
	a := w.begin(1)
	for len(w.m.Log)+70 <= 1024 {
		w.update(a, 0, 16, 16, 1)
	}
	w.corrupt("a loser's updates up to the area's end")
	w = named(t, small(), 0)
	a = w.begin(1)
	for range 13 {
		w.update(a, 0, 16, 16, 1)
	}
	w.commit(a)
	w.begin(2)
	w.corrupt("1011 bytes, and two ends to be appended")
}
