package wal_test

import (
	"bytes"
	"iter"
	"math"
	"slices"
	"sync"
	"testing"

	"tidemark/api"
)

func TestAllOfWhatThereIsThen(t *testing.T) { // P11.5
	d := blank(t, 4096)
	l := opened(t, d, 5)
	m := modelOf(5, 4096)
	all := l.All() // made just once, ahead of everything
	wantWalk(t, "empty", all, m)
	for i, r := range some() {
		appended(t, d, l, m, r)
		if i%3 == 0 {
			flushed(t, d, l, m, 2)
		}
		wantWalk(t, "appended", all, m)
		wantWalk(t, "again", all, m)
	}
	base := m.end() + 8
	wantErrno(t, "Renew", l.Renew(base), api.OK)
	m = modelOf(base, 4096)
	wantWalk(t, "renewed", all, m)
	appended(t, d, l, m, commit, begin)
	wantWalk(t, "appended behind Renew", all, m)
}

// wantWalk looks that an iterator hands out just the model's records.
func wantWalk(t *testing.T, what string, all iter.Seq2[int, api.Record], m *model) {
	t.Helper()
	var lsns []int
	var recs []api.Record
	for lsn, r := range all {
		lsns, recs = append(lsns, lsn), append(recs, r)
	}
	if !slices.Equal(lsns, m.lsns) || !slices.EqualFunc(recs, m.recs, same) {
		t.Errorf("%s: %v, %+v, want %v, %+v", what, lsns, recs, m.lsns, m.recs)
	}
}

func TestTheBodyIsNotSeen(t *testing.T) { // P11.5
	for _, acts := range []string{"append", "flush", "renew", "trim"} {
		d, l, m := steps(t, []byte{1, 2})
		k := 0
		for lsn, r := range l.All() {
			if k >= 4 || lsn != m.lsns[k] || !same(r, m.recs[k]) {
				t.Errorf("%s: the record number %d: %d, %+v", acts, k, lsn, r)
				break
			}
			k++
			switch acts {
			case "append":
				l.Append(begin)
			case "flush":
				wantErrno(t, acts, l.Flush(math.MaxInt), api.OK)
			case "renew":
				wantErrno(t, acts, l.Renew(l.End()+3), api.OK)
				l.Append(update(k))
			case "trim":
				wantErrno(t, acts, l.Trim(), api.OK)
			}
		}
		if k != 4 || d.Dead() {
			t.Errorf("%s: %d records, want 4", acts, k)
		}
	}
}

func TestAllWhileTheLogDies(t *testing.T) { // P11.5, P11.8
	d, l, m := steps(t, nil)
	d.Stop(1)
	k := 0
	for lsn, r := range l.All() {
		wantErrno(t, "Flush", l.Flush(math.MaxInt), api.ErrDead)
		if k < 4 && (lsn != m.lsns[k] || !same(r, m.recs[k])) {
			t.Errorf("the record number %d: %d, %+v", k, lsn, r)
		}
		k++
	}
	if k != 4 {
		t.Errorf("%d records, want 4", k)
	}
}

func TestAllStopsAtOnce(t *testing.T) { // P11.5
	d, l, m := steps(t, nil)
	all := l.All()
	for stop := 1; stop <= 4; stop++ {
		calls := 0
		all(func(int, api.Record) bool {
			calls++
			return calls < stop
		})
		if calls != stop {
			t.Errorf("stopped at record %d: called %d times", stop, calls)
		}
		wantLog(t, "behind a stopped loop", d, l, m) // the log is not held
	}
}

func TestAllWithinItself(t *testing.T) { // P11.5
	_, l, m := steps(t, nil)
	all := l.All()
	k := 0
	for lsn := range all {
		wantWalk(t, "within itself", all, m)
		for range all {
			break
		}
		if lsn != m.lsns[k] {
			t.Errorf("the record number %d: %d", k, lsn)
		}
		k++
	}
	next, stop := iter.Pull2(all) // a step at a time, while the log goes on
	defer stop()
	for i, lsn := range m.lsns {
		got, r, ok := next()
		l.Append(begin)
		if !ok || got != lsn || !same(r, m.recs[i]) {
			t.Errorf("a step at a time: %d, %+v, want %d", got, r, lsn)
		}
	}
	if _, _, ok := next(); ok {
		t.Errorf("what was appended since is seen")
	}
}

func TestABodyThatPanicsLetsTheLogGo(t *testing.T) { // P11.5
	d, l, m := steps(t, nil)
	func() {
		defer func() { recover() }()
		for range l.All() {
			panic("the body's own")
		}
	}()
	wantLog(t, "behind a panic", d, l, m)
}

// scribble writes over all lists of a record and their spare room.
func scribble(r api.Record) {
	for _, b := range [][]byte{r.Before, r.After} {
		b = b[:cap(b)]
		for i := range b {
			b[i] = 0xee
		}
	}
	clear(r.Rows[:cap(r.Rows)])
	clear(r.Dirty[:cap(r.Dirty)])
}

// own gives a copy of a record with marks in its lists' spare room.
func own(r api.Record) api.Record {
	r.Before, r.After = marked(r.Before, 0xa5), marked(r.After, 0xa5)
	r.Rows, r.Dirty = marked(r.Rows, api.Row{Id: -7}), marked(r.Dirty, api.Rec{Page: -7})
	return r
}

func marked[T any](list []T, mark T) []T {
	return append(slices.Clone(list), slices.Repeat([]T{mark}, 9)...)[:len(list)]
}

// unharmed tells whether a list is as it was, the marks behind it too.
func unharmed[T comparable](list, want []T, mark T) bool {
	return slices.Equal(list[:len(want)+9], append(slices.Clone(want), slices.Repeat([]T{mark}, 9)...))
}

func wantOwn(t *testing.T, got, want api.Record) {
	t.Helper()
	if !same(got, want) || !unharmed(got.Before, want.Before, 0xa5) || !unharmed(got.After, want.After, 0xa5) ||
		!unharmed(got.Rows, want.Rows, api.Row{Id: -7}) || !unharmed(got.Dirty, want.Dirty, api.Rec{Page: -7}) {
		t.Errorf("what was handed in was changed: %+v, was %+v", got, want)
	}
}

func TestWhatIsHandedInIsNotKept(t *testing.T) { // P11.10
	d := blank(t, 4096)
	l := opened(t, d, 0)
	m := modelOf(0, 4096)
	var given []api.Record
	for _, r := range some() {
		g := own(r)
		given = append(given, g)
		appended(t, d, l, m, g)
		m.recs[len(m.recs)-1] = r
		wantOwn(t, g, r)
	}
	for _, bad := range []api.Record{{Kind: 2, Birth: 1, Prev: 1, From: 16, Before: []byte{1, 2}, After: []byte{1, 2}}, {Kind: 7, Rows: make([]api.Row, 9)}} {
		g := own(bad)
		wantRefused(t, l, g, api.ErrRecord)
		wantOwn(t, g, bad)
	}
	for i, g := range given {
		scribble(g)
		wantLog(t, "what was handed in is written over", d, l, m)
		given[i] = own(some()[i])
	}
	flushed(t, d, l, m, 2)
	for i, g := range given {
		wantOwn(t, g, some()[i])
	}
}

func TestWhatIsAnsweredIsNewMemory(t *testing.T) { // P11.5, P11.10
	m := modelOf(5, 8192, some()...).saved()
	d := withLog(t, 8192, m.frames)
	l := opened(t, d, 5)
	appended(t, d, l, m, some()...)
	for i, lsn := range m.lsns {
		one, _ := l.Read(lsn)
		two, _ := l.Read(lsn)
		scribble(one)
		if !same(two, m.recs[i]) {
			t.Errorf("two answers share memory: %+v, want %+v", two, m.recs[i])
		}
		scribble(api.Record{Before: two.Before})
		if !bytes.Equal(two.After, m.recs[i].After) {
			t.Errorf("Before and After share memory")
		}
		scribble(api.Record{After: two.After, Rows: two.Rows})
		if !slices.Equal(two.Dirty, m.recs[i].Dirty) {
			t.Errorf("Rows and Dirty share memory")
		}
		wantRead(t, "what was answered is written over", l, m, lsn)
	}
	all := l.All()
	for range 2 {
		k := 0
		for _, r := range all {
			if !same(r, m.recs[k]) {
				t.Errorf("All's record number %d: %+v", k, r)
			}
			scribble(r)
			k++
		}
	}
	wantLog(t, "All's records are written over", d, l, m)
	flushed(t, d, l, m, 2)
}

func TestWhatWasAnsweredStays(t *testing.T) { // P11.10
	d := blank(t, 8192)
	l := opened(t, d, 0)
	m := modelOf(0, 8192)
	appended(t, d, l, m, some()...)
	var kept []api.Record
	for _, lsn := range m.lsns {
		r, _ := l.Read(lsn)
		kept = append(kept, r)
	}
	for _, r := range l.All() {
		kept = append(kept, r)
	}
	want := slices.Concat(m.recs, m.recs)
	flushed(t, d, l, m, 2)
	wantErrno(t, "Renew", l.Renew(m.end()), api.OK)
	m = modelOf(m.end(), 8192)
	appended(t, d, l, m, slices.Repeat([]api.Record{update(128)}, 20)...)
	if !slices.EqualFunc(kept, want, same) {
		t.Errorf("what was answered was changed later")
	}
}

func TestTwoLogsHaveNothingInCommon(t *testing.T) { // P11.10
	d := blank(t, 1024)
	e := blank(t, 1024)
	one, two := opened(t, d, 0), opened(t, e, 0)
	m, n := modelOf(0, 1024), modelOf(0, 1024)
	for range 4 {
		appended(t, d, one, m, begin, update(9))
		appended(t, e, two, n, commit)
		wantLog(t, "one", d, one, m)
		wantLog(t, "two", e, two, n)
	}
	flushed(t, d, one, m, 2)
	wantDisk(t, "the other's disk", e, nil, 0)
}

func TestManyAtATime(t *testing.T) { // P11.3 to P11.5
	const callers, each = 8, 100
	d := blank(t, 65536)
	l := opened(t, d, 0)
	answers := make([][]int, callers)
	var all sync.WaitGroup
	for c := range callers {
		all.Go(func() {
			for i := range each {
				lsn, e := l.Append(api.Record{Kind: 1, Id: 1 + c})
				r, f := l.Read(lsn)
				if e != api.OK || f != api.OK || r.Id != 1+c {
					t.Errorf("Append %d, Read %d: %+v", e, f, r)
				}
				answers[c] = append(answers[c], lsn)
				switch i % 10 {
				case 3:
					if e := l.Flush(lsn); e != api.OK || l.Flushed() <= lsn {
						t.Errorf("Flush(%d): %d, Flushed %d", lsn, e, l.Flushed())
					}
				case 5:
					wantRising(t, l.All())
				case 7:
					if l.End() <= lsn || l.Bytes() < 34 || l.Base() != 0 || l.Trim() != api.OK {
						t.Errorf("behind the LSN %d: End %d, Bytes %d", lsn, l.End(), l.Bytes())
					}
				}
			}
		})
	}
	all.Wait()
	whose := map[int]int{}
	for c, lsns := range answers {
		if !slices.IsSorted(lsns) {
			t.Errorf("the LSNs of one caller fall: %v", lsns)
		}
		for _, lsn := range lsns {
			whose[lsn] = 1 + c
		}
	}
	n := 0
	for lsn, r := range l.All() {
		if lsn != 34*n+1 || whose[lsn] != r.Id {
			t.Errorf("the record number %d: %d, %+v", n, lsn, r)
		}
		n++
	}
	if n != callers*each || len(whose) != n || l.Bytes() != 34*n {
		t.Errorf("%d records, %d LSNs, want %d", n, len(whose), callers*each)
	}
	wantErrno(t, "Flush", l.Flush(math.MaxInt), api.OK)
	wantAll(t, "opened again", opened(t, d, 0), modelFrom(l.All()))
}

// wantRising looks that what All gives is a log's beginning at some moment.
func wantRising(t *testing.T, all iter.Seq2[int, api.Record]) {
	n := 0
	for lsn := range all {
		if lsn != 34*n+1 {
			t.Errorf("the record number %d has the LSN %d", n, lsn)
		}
		n++
	}
}

func modelFrom(all iter.Seq2[int, api.Record]) *model {
	m := modelOf(0, 65536)
	for _, r := range all {
		m.add(r)
	}
	return m
}
