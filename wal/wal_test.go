package wal_test

import (
	"bytes"
	"math"
	"slices"
	"testing"

	"tidemark/api"
	"tidemark/disk"
	"tidemark/wal"
)

func TestExamples(t *testing.T) { // P11.1 to P11.7
	d := blank(t, 1024)
	l := opened(t, d, 0)
	m := modelOf(0, 1024)
	if d.Acts() != 1 {
		t.Errorf("Open: %d acts", d.Acts())
	}
	wantLog(t, "opened", d, l, m)
	appended(t, d, l, m, begin, commit)
	if l.End() != 68 || l.Flushed() != 1 || d.LogLen() != 0 {
		t.Errorf("End %d, Flushed %d, LogLen %d, want 68, 1, 0", l.End(), l.Flushed(), d.LogLen())
	}
	wantLog(t, "appended", d, l, m)
	wantActs(t, "Flush(0)", d, 0, func() { wantErrno(t, "Flush(0)", l.Flush(0), api.OK) })
	wantActs(t, "Flush(1)", d, 2, func() { wantErrno(t, "Flush(1)", l.Flush(1), api.OK) })
	m.onDisk = 67
	wantLog(t, "flushed", d, l, m)
	wantDisk(t, "flushed", d, m.frames, 67)
	wantActs(t, "Flush(99)", d, 0, func() { wantErrno(t, "Flush(99)", l.Flush(99), api.OK) })

	wantLog(t, "opened again", d, opened(t, d, 0), m)
	five := opened(t, d, 5)
	wantLog(t, "opened with another base", d, five, modelOf(5, 1024))
	wantActs(t, "Trim", d, 1, func() { wantErrno(t, "Trim", five.Trim(), api.OK) })
	wantDisk(t, "trimmed", d, nil, 0)
	wantActs(t, "Trim again", d, 0, func() { wantErrno(t, "Trim again", five.Trim(), api.OK) })

	d = withLog(t, 1024, append(slices.Clone(m.frames), 9))
	l = opened(t, d, 0)
	appended(t, d, l, m, begin)
	wantActs(t, "Flush(68)", d, 3, func() { wantErrno(t, "Flush(68)", l.Flush(68), api.OK) })
	wantDisk(t, "with one byte behind", d, m.frames, 101)

	wantErrno(t, "Renew(99)", l.Renew(99), api.ErrRange)
	wantActs(t, "Renew(101)", d, 1, func() { wantErrno(t, "Renew(101)", l.Renew(101), api.OK) })
	m = modelOf(101, 1024)
	wantLog(t, "renewed", d, l, m)
	appended(t, d, l, m, begin)
}

func TestBasesThatMayBe(t *testing.T) { // P11.1
	for _, base := range []int{0, 1, 5, 255, 1<<32 - 1, 1 << 59, mostBase - 1, mostBase} {
		m := modelOf(base, 4096, some()...).saved()
		d := withLog(t, 4096, m.frames)
		l := opened(t, d, base)
		if d.Acts() != 1 {
			t.Errorf("Open(%d): %d acts, want 1", base, d.Acts())
		}
		wantLog(t, "opened", d, l, m)
		wantDisk(t, "opened", d, m.frames, len(m.frames))
		for _, other := range []int{base - 1, base + 1, base + 34} {
			if other >= 0 && other <= mostBase {
				wantLog(t, "another base", d, opened(t, d, other), modelOf(other, 4096))
			}
		}
	}
}

func noBases() []int {
	return []int{-1, -2, -131072, -mostLsn, math.MinInt, math.MinInt + 1, mostBase + 1, mostBase + 2, mostLsn - 65536, mostLsn - 1, mostLsn, mostLsn + 1, 1 << 61, math.MaxInt - 1, math.MaxInt}
}

func TestBasesThatMayNotBe(t *testing.T) { // P11.1
	for _, base := range noBases() {
		d := blank(t, 1024)
		d.Stop(1)
		if l, e := wal.Open(d, base); l != nil || e != api.ErrRange {
			t.Errorf("Open(%d): %v, %d, want ErrRange", base, l, e)
		}
		if d.Dead() || d.Acts() != 0 {
			t.Errorf("Open(%d) was refused behind an act", base)
		}
		d.Sync() // dies now
		if l, e := wal.Open(d, base); l != nil || e != api.ErrRange {
			t.Errorf("Open(%d) of a dead disk: %v, %d, want ErrRange", base, l, e)
		}
	}
}

func TestOpenOfADeadDisk(t *testing.T) { // P11.1
	d := blank(t, 1024)
	d.Stop(1)
	for range 2 { // it dies, then it is dead
		if l, e := wal.Open(d, 0); l != nil || e != api.ErrDead {
			t.Errorf("Open: %v, %d, want ErrDead", l, e)
		}
	}
	d = blank(t, 1024)
	d.Stop(2)
	opened(t, d, 0)
	if d.Dead() {
		t.Errorf("Open takes more than one act")
	}
}

func TestOpenReadsTheWholeLog(t *testing.T) { // P11.1
	m := modelOf(0, 1024, slices.Repeat([]api.Record{begin}, 28)...)
	m.add(update(17))
	if len(m.frames) != 1024 {
		t.Fatalf("%d bytes, want 1024", len(m.frames))
	}
	m.onDisk = 1024
	d := withLog(t, 1024, m.frames)
	l := opened(t, d, 0)
	wantLog(t, "a full log area", d, l, m)
	wantRefused(t, l, commit, api.ErrRoom)

	greatest := modelOf(mostBase, 65536)
	for greatest.fits(begin) {
		greatest.add(begin)
	}
	greatest = greatest.saved()
	d = withLog(t, 65536, append(slices.Clone(greatest.frames), 1, 2, 3))
	l = opened(t, d, mostBase)
	wantTold(t, "the greatest log area", l, greatest)
	wantAll(t, "the greatest log area", l, greatest)
	wantRead(t, "the greatest log area", l, greatest, greatest.lsns[len(greatest.lsns)-1])
}

func TestOpenCountsLooseBytesToo(t *testing.T) { // P11.1, P11.4
	m := modelOf(7, 1024, begin, commit)
	d := blank(t, 1024)
	d.Append(m.frames)
	l := opened(t, d, 7)
	m.onDisk = 67
	wantLog(t, "loose", d, l, m)
	wantDisk(t, "Open writes nothing", d, m.frames, 0)
	wantActs(t, "Flush", d, 0, func() { wantErrno(t, "Flush", l.Flush(99), api.OK) })
	wantActs(t, "Trim", d, 0, func() { wantErrno(t, "Trim", l.Trim(), api.OK) })
	wantDisk(t, "nothing in memory", d, m.frames, 0)
}

func TestEveryLengthOfALog(t *testing.T) { // P11.1, P11.4, P11.6
	whole := modelOf(77, 4096, some()...)
	for n := range len(whole.frames) + 1 {
		m := whole.first(n)
		d := withLog(t, 4096, whole.frames[:n])
		l := opened(t, d, 77)
		wantTold(t, "opened", l, m)
		wantAll(t, "opened", l, m)
		acts := 1
		if n == len(m.frames) {
			acts = 0
		}
		if n%2 == 0 {
			wantActs(t, "Trim", d, acts, func() { wantErrno(t, "Trim", l.Trim(), api.OK) })
			wantDisk(t, "Trim", d, m.frames, len(m.frames))
			acts = 0
		}
		appended(t, d, l, m, commit)
		flushed(t, d, l, m, 2+acts)
	}
}

func TestWhatIsBehindIsNoneOfIt(t *testing.T) { // P11.1, P11.3, P11.4
	m := modelOf(0, 1024, begin, commit)
	next := framed(68, body(begin))
	turned := slices.Clone(next)
	turned[20] ^= 1
	for _, behind := range [][]byte{
		{0}, {9}, make([]byte, 957), bytes.Repeat([]byte{255}, 957), next[:33], next[1:], turned,
		framed(69, body(begin)), framed(1, body(begin)), framed(68, body(api.Record{Kind: 1, Id: 65})), framed(68, []byte{0}),
		slices.Concat(turned, framed(102, body(commit))),
	} {
		d := withLog(t, 1024, slices.Concat(m.frames, behind))
		l := opened(t, d, 0)
		now := m.saved()
		wantLog(t, "opened", d, l, now)
		wantDisk(t, "opened", d, slices.Concat(m.frames, behind), 67+len(behind))
		for now.fits(begin) { // what is behind takes no room
			appended(t, d, l, now, begin)
		}
		wantRefused(t, l, begin, api.ErrRoom)
		wantDisk(t, "appended", d, slices.Concat(m.frames, behind), 67+len(behind))
		flushed(t, d, l, now, 3)
	}
}

func TestAppendAllKinds(t *testing.T) { // P11.2, P11.3
	for _, base := range []int{0, 5, 254, 1<<32 - 50, mostBase} {
		d := blank(t, 4096)
		l := opened(t, d, base)
		m := modelOf(base, 4096)
		for _, r := range some() {
			appended(t, d, l, m, r)
			wantLog(t, "appended", d, l, m)
		}
		wantDisk(t, "appended", d, nil, 0)
		flushed(t, d, l, m, 2)
		wantLog(t, "opened again", d, opened(t, d, base), m)
	}
}

func TestAppendOfWrongRecords(t *testing.T) { // P11.3
	d := blank(t, 1024)
	l := opened(t, d, 0)
	m := modelOf(0, 1024)
	for k := range 3 {
		wantActs(t, "Append", d, 0, func() {
			for _, r := range wrong() {
				wantRefused(t, l, r, api.ErrRecord)
			}
		})
		wantLog(t, "refused", d, l, m)
		if k == 0 {
			appended(t, d, l, m, begin, commit)
		}
	}
	for m.fits(commit) {
		appended(t, d, l, m, commit)
	}
	for _, r := range wrong() { // ErrRecord ahead of ErrRoom
		wantRefused(t, l, r, api.ErrRecord)
	}
	wantRefused(t, l, commit, api.ErrRoom)
	wantLog(t, "refused", d, l, m)
}

func TestRoom(t *testing.T) { // P11.3
	for _, area := range []int{1024, 1025, 1053, 1054, 1055, 65536} {
		for _, flush := range []int{0, 1, 5} { // every so many records are flushed
			d := blank(t, area)
			l := opened(t, d, 3)
			m := modelOf(3, area)
			for i := 1; m.fits(begin); i++ {
				appended(t, d, l, m, begin)
				if flush > 0 && i%flush == 0 && area < 65536 {
					flushed(t, d, l, m, 2)
				}
			}
			wantActs(t, "Append", d, 0, func() {
				wantRefused(t, l, begin, api.ErrRoom)
				wantRefused(t, l, update(128), api.ErrRoom)
			})
			wantTold(t, "refused", l, m)
			wantAll(t, "refused", l, m)
			if m.fits(commit) != (area-len(m.frames) == 33) {
				t.Fatalf("the model is wrong")
			}
			if m.fits(commit) {
				appended(t, d, l, m, commit)
			}
			wantRefused(t, l, commit, api.ErrRoom)
		}
	}
}

func TestTheLastByteOfTheLogArea(t *testing.T) { // P11.3, P11.4
	d := blank(t, 1024)
	l := opened(t, d, 0)
	m := modelOf(0, 1024)
	for range 28 {
		appended(t, d, l, m, begin)
	}
	wantRefused(t, l, update(18), api.ErrRoom) // 72 are left, 74 asked for
	wantLog(t, "refused", d, l, m)
	appended(t, d, l, m, update(17))
	wantRefused(t, l, commit, api.ErrRoom)
	flushed(t, d, l, m, 2)
	wantRefused(t, l, commit, api.ErrRoom)
}

func TestWhichLsnsFlush(t *testing.T) { // P11.4
	for _, base := range []int{0, 500, mostBase} {
		for _, onDisk := range [][]api.Record{nil, {begin}, {begin, commit}} {
			m := modelOf(base, 1024, onDisk...).saved()
			next := m.end()
			for _, lsn := range []int{math.MinInt, -mostLsn, -1, 0, next - 34, next - 2, next - 1} {
				d := withLog(t, 1024, m.frames)
				l := opened(t, d, base)
				now := m.saved()
				appended(t, d, l, now, begin, commit)
				wantActs(t, "Flush below Flushed", d, 0, func() { wantErrno(t, "Flush", l.Flush(lsn), api.OK) })
				wantLog(t, "Flush below Flushed", d, l, now)
				wantDisk(t, "Flush below Flushed", d, m.frames, len(m.frames))
			}
			for _, lsn := range []int{next, next + 1, next + 33, next + 34, next + 66, next + 67, next + 68, mostLsn, mostLsn + 1, math.MaxInt} {
				d := withLog(t, 1024, m.frames)
				l := opened(t, d, base)
				now := m.saved()
				appended(t, d, l, now, begin, commit)
				wantActs(t, "Flush", d, 2, func() { wantErrno(t, "Flush", l.Flush(lsn), api.OK) })
				now.onDisk = len(now.frames)
				wantLog(t, "Flush", d, l, now)
				wantDisk(t, "Flush", d, now.frames, len(now.frames))
			}
		}
	}
}

func TestFlushOfNothing(t *testing.T) { // P11.4
	for _, log := range [][]byte{nil, {9}, framed(1, body(begin)), append(framed(1, body(begin)), 7, 7)} {
		d := withLog(t, 1024, log)
		l := opened(t, d, 0)
		for _, lsn := range []int{math.MinInt, -1, 0, 1, l.Flushed() - 1, l.Flushed(), l.End() + 1, math.MaxInt} {
			wantActs(t, "Flush of nothing", d, 0, func() { wantErrno(t, "Flush", l.Flush(lsn), api.OK) })
		}
		wantDisk(t, "Flush of nothing", d, log, len(log))
	}
}

// steps gives a log of some records on the disk, two bytes behind them (if asked for), and two records in memory.
func steps(t *testing.T, behind []byte) (*disk.Disk, *wal.Log, *model) {
	m := modelOf(5, 1024, begin, update(3)).saved()
	d := withLog(t, 1024, slices.Concat(m.frames, behind))
	l := opened(t, d, 5)
	appended(t, d, l, m, update(4), commit)
	return d, l, m
}

func TestFlushActByAct(t *testing.T) { // P11.4
	for _, behind := range [][]byte{nil, {1, 2}} {
		d, l, m := steps(t, behind)
		old := m.frames[:m.onDisk]
		states := []struct {
			log   []byte
			lasts int
		}{
			{slices.Concat(old, behind), len(old) + len(behind)}, // nothing yet
			{old, len(old)},           // what is behind is cut
			{m.frames, len(old)},      // all is appended, loosely
			{m.frames, len(m.frames)}, // all lasts
		}
		if behind == nil {
			states = states[1:]
		}
		wantActs(t, "Flush", d, len(states)-1, func() { wantErrno(t, "Flush", l.Flush(m.end()), api.OK) })
		wantDisk(t, "Flush", d, m.frames, len(m.frames))
		for stop, s := range states[:len(states)-1] {
			d, l, _ := steps(t, behind)
			d.Stop(stop + 1)
			wantErrno(t, "Flush that is cut", l.Flush(m.end()), api.ErrDead)
			wantDisk(t, "Flush that is cut", d, s.log, s.lasts)
		}
	}
}

func TestFlushAgainAndAgain(t *testing.T) { // P11.4
	d := withLog(t, 4096, []byte{1, 2, 3})
	l := opened(t, d, 9)
	m := modelOf(9, 4096)
	for i, r := range some() {
		appended(t, d, l, m, r)
		flushed(t, d, l, m, 2+max(0, 1-i)) // what was behind is cut just once
	}
}

func TestReadAtEveryLsn(t *testing.T) { // P11.5
	for _, base := range []int{0, 5, mostBase} {
		m := modelOf(base, 4096, some()...).saved()
		d := withLog(t, 4096, m.frames)
		l := opened(t, d, base)
		appended(t, d, l, m, some()...)
		wantActs(t, "Read", d, 0, func() {
			for lsn := base - 3; lsn < m.end()+50; lsn++ {
				wantRead(t, "at every LSN", l, m, lsn)
			}
			for _, lsn := range []int{math.MinInt, math.MinInt + 1, -mostLsn, -1, mostLsn, mostLsn + 1, math.MaxInt - 1, math.MaxInt} {
				wantRead(t, "at the ends", l, m, lsn)
			}
		})
	}
}

func TestAFrameWithinAFrameIsNoRecord(t *testing.T) { // P11.5
	for _, onDisk := range []bool{false, true} {
		d := blank(t, 1024)
		l := opened(t, d, 0)
		m := modelOf(0, 1024, begin)
		l.Append(begin)
		// The After of an update begins at its body's byte 17 + 5 + n; so the frame that it holds has just the LSN of its place.
		inner := m.end() + 12 + 22 + 34
		u := update(34)
		u.After = framed(inner, body(begin))
		u.Before[0], u.Before[33] = ^u.After[0], ^u.After[33]
		appended(t, d, l, m, u, commit)
		if got := framed(inner, body(begin)); !bytes.Equal(m.frames[inner-1:inner+33], got) {
			t.Fatalf("the frame does not stand at its LSN")
		}
		if onDisk {
			flushed(t, d, l, m, 2)
			l = opened(t, d, 0)
		}
		wantRead(t, "within a frame", l, m, inner)
		wantLog(t, "within a frame", d, l, m)
	}
}

func TestTrim(t *testing.T) { // P11.6
	for _, behind := range [][]byte{nil, {1}, {1, 2}, make([]byte, 500)} {
		d, l, m := steps(t, behind)
		acts := min(1, len(behind))
		wantActs(t, "Trim", d, acts, func() { wantErrno(t, "Trim", l.Trim(), api.OK) })
		wantDisk(t, "Trim", d, m.frames[:m.onDisk], m.onDisk)
		wantLog(t, "Trim", d, l, m) // those in memory are there still
		wantActs(t, "Trim again", d, 0, func() { wantErrno(t, "Trim", l.Trim(), api.OK) })
		flushed(t, d, l, m, 2)
		wantActs(t, "Trim of what is flushed", d, 0, func() { wantErrno(t, "Trim", l.Trim(), api.OK) })
		wantDisk(t, "Trim of what is flushed", d, m.frames, len(m.frames))
	}
}

func TestTrimThatIsCut(t *testing.T) { // P11.6, P11.8
	d, l, m := steps(t, []byte{1, 2})
	d.Stop(1)
	wantErrno(t, "Trim", l.Trim(), api.ErrDead)
	wantDisk(t, "Trim that is cut", d, slices.Concat(m.frames[:m.onDisk], []byte{1, 2}), m.onDisk+2)
}

func TestRenew(t *testing.T) { // P11.7
	for _, behind := range [][]byte{nil, {1, 2}} {
		for _, more := range []int{0, 1, 33, 1 << 40} {
			d, l, m := steps(t, behind)
			last, base := m.lsns[len(m.lsns)-1], m.end()-1+more
			wantActs(t, "Renew", d, 1, func() { wantErrno(t, "Renew", l.Renew(base), api.OK) })
			wantDisk(t, "Renew", d, nil, 0)
			m = modelOf(base, 1024)
			wantLog(t, "Renew", d, l, m)
			wantActs(t, "nothing in memory", d, 0, func() { wantErrno(t, "Flush", l.Flush(math.MaxInt), api.OK) })
			wantActs(t, "nothing behind", d, 0, func() { wantErrno(t, "Trim", l.Trim(), api.OK) })
			appended(t, d, l, m, some()[:4]...)
			if m.lsns[0] <= last {
				t.Errorf("the LSNs fall: %d behind %d", m.lsns[0], last)
			}
			flushed(t, d, l, m, 2)
			wantLog(t, "opened again", d, opened(t, d, base), m)
		}
	}
}

func TestRenewOfAnEmptyLog(t *testing.T) { // P11.7
	d := blank(t, 1024)
	l := opened(t, d, 0)
	for _, base := range []int{0, 0, 1, 1, 7, mostBase, mostBase} {
		wantActs(t, "Renew", d, 1, func() { wantErrno(t, "Renew", l.Renew(base), api.OK) })
		wantLog(t, "Renew", d, l, modelOf(base, 1024))
	}
	wantActs(t, "Renew below", d, 0, func() { wantErrno(t, "Renew", l.Renew(mostBase-1), api.ErrRange) })
	wantLog(t, "Renew below", d, l, modelOf(mostBase, 1024))
}

func TestRenewWithABaseThatMayNotBe(t *testing.T) { // P11.7
	d, l, m := steps(t, []byte{1, 2})
	for _, base := range append(noBases(), 0, 4, 5, m.flushed()-1, m.flushed(), m.end()-34, m.end()-3, m.end()-2) {
		wantActs(t, "Renew", d, 0, func() { wantErrno(t, "Renew", l.Renew(base), api.ErrRange) })
		wantLog(t, "Renew", d, l, m)
	}
	wantDisk(t, "Renew", d, slices.Concat(m.frames[:m.onDisk], []byte{1, 2}), m.onDisk+2)
	flushed(t, d, l, m, 3) // those in memory were there still

	d = blank(t, 1024)
	l = opened(t, d, mostBase)
	m = modelOf(mostBase, 1024)
	appended(t, d, l, m, begin)
	for _, base := range []int{mostBase, mostBase + 34, mostBase + 35} { // the first is below End() - 1, the others may not be
		wantActs(t, "Renew", d, 0, func() { wantErrno(t, "Renew", l.Renew(base), api.ErrRange) })
	}
	wantLog(t, "the greatest base", d, l, m)
	wantErrno(t, "not dead", l.Flush(mostLsn), api.OK)
}

func TestRenewMakesRoom(t *testing.T) { // P11.3, P11.7
	d := blank(t, 1024)
	l := opened(t, d, 0)
	base := 0
	for range 5 {
		m := modelOf(base, 1024)
		for m.fits(begin) {
			appended(t, d, l, m, begin)
		}
		wantRefused(t, l, begin, api.ErrRoom)
		base = m.end() - 1
		wantErrno(t, "Renew", l.Renew(base), api.OK)
	}
	if base != 5*1020 {
		t.Errorf("the base is %d, want %d", base, 5*1020)
	}
}

// wantDead looks that a log that has met ErrDead answers it to all five, whatever they are given, and does no act.
func wantDead(t *testing.T, what string, d *disk.Disk, l *wal.Log, m *model) {
	t.Helper()
	wantActs(t, what, d, 0, func() {
		for _, r := range []api.Record{begin, update(128), {Kind: 9}, {}} {
			wantRefused(t, l, r, api.ErrDead)
		}
		for _, lsn := range []int{math.MinInt, 0, 1, m.base + 1, m.flushed(), m.end(), math.MaxInt} {
			wantErrno(t, what+": Flush", l.Flush(lsn), api.ErrDead)
			if r, e := l.Read(lsn); e != api.ErrDead || !same(r, api.Record{}) {
				t.Errorf("%s: Read(%d): %+v, %d", what, lsn, r, e)
			}
			wantErrno(t, what+": Renew", l.Renew(lsn), api.ErrDead)
		}
		wantErrno(t, what+": Trim", l.Trim(), api.ErrDead)
	})
}

func TestDead(t *testing.T) { // P11.8
	for _, behind := range [][]byte{nil, {1, 2}} {
		for stop := range 2 + min(1, len(behind)) {
			d, l, m := steps(t, behind)
			d.Stop(stop + 1)
			wantErrno(t, "Flush", l.Flush(m.end()), api.ErrDead)
			was := d.Image().Log
			wantDead(t, "Flush", d, l, m)
			if !bytes.Equal(d.Image().Log, was) {
				t.Errorf("a dead log writes")
			}
		}
		d, l, m := steps(t, behind)
		d.Stop(1)
		wantErrno(t, "Renew", l.Renew(m.end()), api.ErrDead)
		wantDead(t, "Renew", d, l, m)
		wantDisk(t, "Renew", d, slices.Concat(m.frames[:m.onDisk], behind), m.onDisk+len(behind))
	}
	d, l, m := steps(t, []byte{1})
	d.Stop(1)
	wantErrno(t, "Trim", l.Trim(), api.ErrDead)
	wantDead(t, "Trim", d, l, m)
}

func TestNobodyAsksWhetherTheDiskIsDead(t *testing.T) { // P11.3 to P11.6, P11.8
	d := blank(t, 1024)
	l := opened(t, d, 0)
	m := modelOf(0, 1024)
	d.Stop(1)
	wantErrno(t, "the disk", d.Sync(), api.ErrDead)
	wantErrno(t, "Flush of nothing", l.Flush(99), api.OK)
	appended(t, d, l, m, begin, commit) // no act: it does not meet ErrDead
	wantErrno(t, "Flush(0)", l.Flush(0), api.OK)
	wantErrno(t, "Trim", l.Trim(), api.OK)
	wantErrno(t, "Renew", l.Renew(66), api.ErrRange)
	wantLog(t, "not met", d, l, m)
	wantErrno(t, "Flush", l.Flush(1), api.ErrDead)
	wantDead(t, "met", d, l, m)
}

func TestAnotherLogIsNotDead(t *testing.T) { // P11.8
	d, l, m := steps(t, nil)
	d.Stop(2)
	wantErrno(t, "Flush", l.Flush(m.end()), api.ErrDead)
	other := d.Crash(api.Choice{Log: -1})
	wantLog(t, "opened behind the crash", other, opened(t, other, 5), m.saved())
}
