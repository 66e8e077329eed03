package replay_test

import (
	"bytes"
	"math"
	"math/rand"
	"slices"
	"testing"

	"tidemark/api"
	"tidemark/look"
	"tidemark/replay"
)

// example is the chapter's log.
func example(t *testing.T) *scroll {
	t.Helper()
	s := scrollAt(t, 0)
	s.begin(7)
	s.update(1, 0, 16, []byte{0}, []byte{1})
	s.begin(8)
	s.update(75, 1, 16, []byte{0, 0}, []byte{2, 3})
	if at := s.commit(75); at != 151 {
		t.Fatalf("the commit is at %d", at)
	}
	return s
}

// eight is what the chapter's log tells of its winner.
func eight() replay.Txn {
	return replay.Txn{Birth: 75, Id: 8, Commit: 151, Changes: []replay.Change{{Lsn: 109, Page: 1, From: 16, After: []byte{2, 3}}}}
}

func TestExamples(t *testing.T) { // P28.1 to P28.4
	s := example(t)
	left := [][]byte{make([]byte, 16), {2, 3, 15: 0}}
	tells(t, "example 1", s.log, 0, eight())
	leaves(t, "example 1", sheets(2, 40), s.log, 0, left)
	want := []string{"1 begin 7", "35 update 1 1 page 0 at 16: 00 to 01", "75 begin 8", "109 update 75 75 page 1 at 16: 0000 to 0203", "151 commit 75 109"}
	reads(t, "example 2", s.log, 0, want...)

	short := s.log
	s.abort(1)
	s.undo(1, 0, 16, []byte{0}, 0)
	s.end(1)
	want = append(want, "184 abort 1 35", "217 undo 1 184 page 0 at 16: 00 next 0", "264 end 1 217")
	reads(t, "example 3", s.log, 0, want...)
	tells(t, "example 3", s.log, 0, eight())
	leaves(t, "example 3", sheets(2, 40), s.log, 0, left)

	c := scrollAt(t, 0)
	c.begin(7)
	c.update(1, 0, 16, []byte{0}, []byte{1})
	c.lay(api.Record{Kind: api.KCheck, Rows: []api.Row{{Birth: 1, Id: 7, State: api.SOpen, Last: 35, Next: 35}}, Dirty: []api.Rec{{Page: 0, Lsn: 35}}})
	reads(t, "example 4", c.log, 0, "1 begin 7", "35 update 1 1 page 0 at 16: 00 to 01", "75 check row 1 7 open 35 35 rec 0 35")
	tells(t, "example 4", c.log, 0)

	committedRefused(t, "no page", nil, short, 0, noPages)
	committedRefused(t, "seventeen", sheets(17, 40), short, 0, noPages)
	committedRefused(t, "40 and 56 bytes", [][]byte{make([]byte, 40), make([]byte, 56)}, short, 0, noPages)
	committedRefused(t, "one page alone", sheets(1, 40), short, 0, corrupt)
	odd := scrollAt(t, 0)
	odd.begin(7)
	odd.lay(api.Record{Kind: api.KUpdate, Birth: 2, Prev: 1, From: 16, Before: []byte{0}, After: []byte{1}})
	historyRefused(t, "a birth that is none", odd.log, 0)
	reads(t, "a birth that is none", odd.log, 0, "1 begin 7", "35 update 2 1 page 0 at 16: 00 to 01")
	tells(t, "no byte", nil, 0)
	leaves(t, "no byte", [][]byte{bytes.Repeat([]byte{9}, 40)}, nil, 0, [][]byte{bytes.Repeat([]byte{9}, 16)})
	reads(t, "no byte", nil, 0)
}

// change is short for a winner's update of one byte, which is 1 then.
func change(lsn, number, from int) replay.Change {
	return replay.Change{Lsn: lsn, Page: number, From: from, After: []byte{1}}
}

// The winners stand by their commits, not by their births nor their ends; each has its updates in their order, and no other's.
func TestOrderOfCommits(t *testing.T) { // P28.1
	s := scrollAt(t, 1000)
	old, now := []byte{0}, []byte{1}
	a, b, c := s.begin(5), s.begin(4), s.begin(64)
	a1 := s.update(a, 0, 16, old, now)
	b1 := s.update(b, 1, 17, old, now)
	a2 := s.update(a, 2, 18, old, now)
	b2 := s.update(b, 1, 17, now, []byte{7})
	cc := s.commit(c)
	bc := s.commit(b)
	a3 := s.update(a, 0, 16, now, old)
	ac := s.commit(a)
	want := []replay.Txn{
		{Birth: c, Id: 64, Commit: cc},
		{Birth: b, Id: 4, Commit: bc, Changes: []replay.Change{change(b1, 1, 17), {Lsn: b2, Page: 1, From: 17, After: []byte{7}}}},
		{Birth: a, Id: 5, Commit: ac, Changes: []replay.Change{change(a1, 0, 16), change(a2, 2, 18), {Lsn: a3, Page: 0, From: 16, After: old}}},
	}
	tells(t, "none has ended", s.log, 1000, want...)
	s.end(a)
	s.end(c)
	tells(t, "two have ended", s.log, 1000, want...)
	again := s.begin(5) // the number is free, and page 0 too
	u := s.update(again, 0, 20, old, now)
	tells(t, "a number's second transaction is open", s.log, 1000, want...)
	want = append(want, replay.Txn{Birth: again, Id: 5, Commit: s.commit(again), Changes: []replay.Change{change(u, 0, 20)}})
	tells(t, "a number's second transaction has won", s.log, 1000, want...)
}

// Who has no commit record is not told, however far it came.
func TestOthersAreNotTold(t *testing.T) { // P28.1, P28.2
	steps := []func(*scroll, int){
		func(s *scroll, x int) {},
		func(s *scroll, x int) { s.update(x, 0, 17, []byte{0}, []byte{2}) },
		func(s *scroll, x int) { s.abort(x) },
		func(s *scroll, x int) { s.undo(x, 0, 17, []byte{0}, 0) },
		func(s *scroll, x int) { s.end(x) },
	}
	s := scrollAt(t, 0)
	won := s.begin(1)
	u := s.update(won, 1, 16, []byte{0}, []byte{1})
	lost := s.begin(2)
	want := []replay.Txn{{Birth: won, Id: 1, Commit: s.commit(won), Changes: []replay.Change{change(u, 1, 16)}}}
	pages := [][]byte{bytes.Repeat([]byte{9}, 40), bytes.Repeat([]byte{9}, 40)}
	left := [][]byte{bytes.Repeat([]byte{9}, 16), append([]byte{1}, bytes.Repeat([]byte{9}, 15)...)}
	for i, step := range steps {
		step(s, lost)
		tells(t, "a loser's step", s.log, 0, want...)
		leaves(t, "a loser's step", pages, s.log, 0, left) // neither its update nor what takes it back is laid
		if t.Failed() {
			t.Fatalf("step %d", i)
		}
	}
	idle := s.begin(3)
	s.end(idle) // as a restart ends what wrote nothing
	tells(t, "ended without a commit", s.log, 0, want...)
}

// wrong gives logs each of which breaks one of look's rules by its last record, whatever the pages are.
func wrong(t *testing.T) map[string]*scroll {
	t.Helper()
	old, now := []byte{0}, []byte{1}
	list := map[string]*scroll{}
	add := func(what string, write func(s *scroll, a, b int)) {
		s := scrollAt(t, 0)
		a, b := s.begin(1), s.begin(2)
		s.update(a, 0, 16, old, now)
		write(s, a, b)
		list[what] = s
	}
	add("rule 1", func(s *scroll, a, b int) { s.begin(1) })
	add("rule 2: birth", func(s *scroll, a, b int) { s.lay(api.Record{Kind: api.KCommit, Birth: 2, Prev: b}) })
	add("rule 2: prev", func(s *scroll, a, b int) { s.lay(api.Record{Kind: api.KCommit, Birth: a, Prev: b}) })
	add("rule 3: held", func(s *scroll, a, b int) { s.update(b, 0, 17, old, now) })
	add("rule 3: state", func(s *scroll, a, b int) { s.commit(b); s.update(b, 1, 17, old, now) })
	add("rule 4", func(s *scroll, a, b int) { s.undo(a, 0, 16, now, 0) })
	add("rule 5: commit twice", func(s *scroll, a, b int) { s.commit(a); s.commit(a) })
	add("rule 5: commit behind abort", func(s *scroll, a, b int) { s.abort(a); s.commit(a) })
	add("rule 6", func(s *scroll, a, b int) { s.end(a) })
	add("rule 7", func(s *scroll, a, b int) { s.lay(api.Record{Kind: api.KCheck}) })
	return list
}

// What look refuses is refused, winners or none; as lines it is told.
func TestWrongLogs(t *testing.T) { // P28.1, P28.2
	for what, s := range wrong(t) {
		historyRefused(t, what, s.log, 0)
		committedRefused(t, what, sheets(16, 152), s.log, 0, corrupt)
		reads(t, what, s.log, 0, s.lines()...)
		n := len(s.ends)
		short := s.log[:s.ends[n-1]-1] // the last record, which breaks the rule, is not of the beginning
		s.all, s.lsns = s.all[:n-1], s.lsns[:n-1]
		tells(t, what+", cut", short, 0, s.history()...)
		leaves(t, what+", cut", sheets(2, 40), short, 0, laid(sheets(2, 40), changesOf(s.history())))
	}
	s := example(t)
	s.end(1) // an update is left
	historyRefused(t, "behind a winner", s.log, 0)
	committedRefused(t, "behind a winner", sheets(2, 40), s.log, 0, corrupt)
}

// The base is one that look takes.
func TestBases(t *testing.T) { // P28.1, P28.2
	for _, base := range []int{0, 1, 1 << 32, mostBase - 1, mostBase} {
		s := scrollAt(t, base)
		x := s.begin(3)
		u := s.update(x, 15, 16, []byte{0}, []byte{1})
		c := s.commit(x)
		if u != base+35 || c != base+75 {
			t.Fatalf("base %d: LSNs %d and %d", base, u, c)
		}
		tells(t, "base", s.log, base, replay.Txn{Birth: x, Id: 3, Commit: c, Changes: []replay.Change{change(u, 15, 16)}})
		want := sheets(16, 16)
		want[15][0] = 1
		leaves(t, "base", sheets(16, 40), s.log, base, want)
		other := base + 1 // where no frame fits: no beginning
		if other <= mostBase {
			tells(t, "another base", s.log, other)
			leaves(t, "another base", sheets(16, 40), s.log, other, sheets(16, 16))
		}
	}
	log := example(t).log
	for _, base := range []int{-1, mostBase + 1, mostLsn, mostLsn + 1, math.MinInt, math.MaxInt} {
		for _, b := range [][]byte{nil, log} {
			historyRefused(t, "a base that may not be", b, base)
			committedRefused(t, "a base that may not be", sheets(2, 40), b, base, corrupt)
			committedRefused(t, "no pages, too", nil, b, base, noPages)
		}
	}
}

// How many pages there may be, and of how many bytes.
func TestPagesThatMayBe(t *testing.T) { // P28.2
	for n := range 40 {
		for size := range 200 {
			slots := (size - 24) / 16
			may := n >= 1 && n <= 16 && slots >= 1 && slots <= 8 && size == 24+16*slots
			if may {
				leaves(t, "pages that may be", sheets(n, size), nil, 5, sheets(n, 16*slots))
			} else {
				committedRefused(t, "pages that may not be", sheets(n, size), nil, 5, noPages)
			}
			if t.Failed() {
				t.Fatalf("%d pages of %d bytes", n, size)
			}
		}
	}
	for one := range 16 { // one is another than the rest
		for slots := 1; slots <= 8; slots++ {
			for _, size := range []int{0, 24, 23 + 16*slots, 25 + 16*slots, 8 + 16*slots, 40 + 16*slots, 1000} {
				pages := sheets(16, 24+16*slots)
				pages[one] = make([]byte, size)
				committedRefused(t, "one is another", pages, nil, 0, noPages)
			}
		}
	}
	bad := wrong(t)["rule 1"].log
	committedRefused(t, "the pages are looked at first", sheets(17, 40), bad, 0, noPages)
	committedRefused(t, "the pages are looked at first", sheets(2, 41), bad, 0, noPages)
	committedRefused(t, "then the log", sheets(2, 40), bad, 0, corrupt)
	committedRefused(t, "pages that are nil", make([][]byte, 3), nil, 0, noPages)
}

// Stamps, numbers and sums are not looked at, and neither head nor tail is told.
func TestAnyPages(t *testing.T) { // P28.2
	dice := rand.New(rand.NewSource(1))
	for n := 1; n <= 16; n++ {
		for slots := 1; slots <= 8; slots++ {
			pages := scribbled(dice, n, slots)
			leaves(t, "any bytes", pages, nil, 0, laid(pages, nil))
		}
	}
	pages := scribbled(dice, 2, 1)
	leaves(t, "any bytes", pages, example(t).log, 0, laid(pages, eight().Changes))
}

// An update lies within the pages and their slots, whoever's it is.
func TestUpdatesLieInPages(t *testing.T) { // P28.1, P28.2
	for slots := 1; slots <= 8; slots++ {
		for n := 1; n <= 16*slots; n++ {
			for over := range 2 {
				from := 16 + 16*slots - n + over
				if from+n > 144 {
					continue
				}
				for _, wins := range []bool{true, false} {
					inPages(t, slots, from, n, wins, over == 0)
				}
			}
		}
	}
	for pages := 1; pages <= 16; pages++ {
		for number := range 16 {
			for _, wins := range []bool{true, false} {
				onPage(t, pages, number, wins)
			}
		}
	}
}

// onPage looks at one update of a page that may be there or not.
func onPage(t *testing.T, pages, number int, wins bool) {
	t.Helper()
	s := scrollAt(t, 0)
	x := s.begin(1)
	s.update(x, number, 16, []byte{0}, []byte{1})
	if wins {
		s.commit(x)
	}
	tells(t, "whatever pages there are", s.log, 0, s.history()...)
	if number >= pages {
		committedRefused(t, "a page that is not there", sheets(pages, 40), s.log, 0, corrupt)
		return
	}
	leaves(t, "a page", sheets(pages, 40), s.log, 0, laid(sheets(pages, 40), changesOf(s.history())))
}

// inPages looks at one update of n bytes of the second of two pages.
func inPages(t *testing.T, slots, from, n int, wins, fits bool) {
	t.Helper()
	s := scrollAt(t, 0)
	x := s.begin(1)
	s.update(x, 1, from, make([]byte, n), bytes.Repeat([]byte{1}, n))
	if wins {
		s.commit(x)
	}
	pages := sheets(2, 24+16*slots)
	tells(t, "an update", s.log, 0, s.history()...)
	if !fits {
		committedRefused(t, "behind the slots", pages, s.log, 0, corrupt)
		return
	}
	leaves(t, "an update", pages, s.log, 0, laid(pages, changesOf(s.history())))
}

// Updates that lie over one another: the later one is seen.
func TestLaterOverEarlier(t *testing.T) { // P28.2
	s := scrollAt(t, 0)
	a := s.begin(1)
	s.update(a, 0, 16, []byte{0, 0, 0}, []byte{1, 1, 1})
	s.update(a, 0, 17, []byte{1, 1, 0, 0}, []byte{2, 2, 2, 2})
	b := s.begin(2)
	s.update(b, 1, 16, []byte{0}, []byte{5})
	s.update(a, 0, 18, []byte{2}, []byte{3})
	s.commit(b)
	s.commit(a)
	s.end(b)
	s.end(a)
	c := s.begin(1)
	s.update(c, 0, 16, []byte{1, 2}, []byte{4, 4})
	s.update(c, 1, 31, []byte{0}, []byte{6})
	leaves(t, "c is open", sheets(2, 40), s.log, 0, [][]byte{{1, 2, 3, 2, 2, 15: 0}, {5, 15: 0}})
	s.commit(c)
	leaves(t, "c has won", sheets(2, 40), s.log, 0, [][]byte{{4, 4, 3, 2, 2, 15: 0}, {5, 15: 6}})
}

// Bytes of any kind: an answer comes, and is what look says.
func TestAnyBytes(t *testing.T) { // P28.1 to P28.4; DOC.md, rule 1
	dice := rand.New(rand.NewSource(7))
	whole := made(t, 7, 40)
	for range 20000 {
		b := make([]byte, dice.Intn(120))
		dice.Read(b)
		if dice.Intn(2) == 0 {
			b = slices.Concat(whole.log[:dice.Intn(len(whole.log))], b)
		}
		base := []int{0, whole.base, dice.Int(), -dice.Int()}[dice.Intn(4)]
		found, want := look.Analyse(b, base, 0, 16, 8)
		h, e := replay.History(b, base)
		if e != want || len(h) != len(found.Winners) {
			t.Fatalf("History: %+v, %d, want %d", h, e, want)
		}
		pages := scribbled(dice, 1+dice.Intn(16), 1+dice.Intn(8))
		_, want = look.Analyse(b, base, 0, len(pages), (len(pages[0])-24)/16)
		c, e := replay.Committed(pages, b, base)
		if e != want || e == api.OK && !sameBytes(c, laid(pages, changesOf(h))) || e != api.OK && len(c) > 0 {
			t.Fatalf("Committed: % x, %d, want %d", c, e, want)
		}
		lines := slices.Collect(replay.Lines(b, base))
		if replay.Text(b, base) != textOf(lines) {
			t.Fatalf("Text is not the lines %q", lines)
		}
	}
}

// A log may have more bytes than a log area, and many transactions.
func TestLongLog(t *testing.T) { // P28.1 to P28.4
	s := scrollAt(t, 9)
	for i := range 20000 {
		x := s.begin(1 + i%64)
		s.update(x, i%16, 16+i%128, []byte{byte(i)}, []byte{byte(i + 1)})
		if i%3 == 0 {
			s.undo(x, i%16, 16+i%128, []byte{byte(i)}, 0)
		} else {
			s.commit(x)
		}
		s.end(x)
	}
	want := s.history()
	tells(t, "long", s.log, 9, want...)
	leaves(t, "long", sheets(16, 152), s.log, 9, laid(sheets(16, 152), changesOf(want)))
	if replay.Text(s.log, 9) != textOf(s.lines()) {
		t.Error("the text is another")
	}
}
