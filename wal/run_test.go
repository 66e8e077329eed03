package wal_test

import (
	"math/rand"
	"slices"
	"testing"

	"tidemark/api"
	"tidemark/disk"
	"tidemark/wal"
)

func TestAFlushThatAnsweredLasts(t *testing.T) { // P11.9
	for _, behind := range [][]byte{nil, {1, 2}} {
		d, l, m := steps(t, behind)
		wantErrno(t, "Flush", l.Flush(m.end()), api.OK)
		m.onDisk = len(m.frames)
		l.Append(begin) // in memory: no crash leaves it
		for _, c := range []api.Choice{{}, {Log: 1}, {Log: -1}, {Log: 7, Keep: []int{0, 1, 2}}} {
			other := d.Crash(c)
			wantLog(t, "behind a crash", other, opened(t, other, 5), m)
		}
	}
}

func TestEveryCrashWithinAFlush(t *testing.T) { // P11.9
	for _, behind := range [][]byte{nil, {1, 2}, make([]byte, 40)} {
		for stop := range 2 + min(1, len(behind)) {
			d, l, m := steps(t, behind)
			d.Stop(stop + 1)
			wantErrno(t, "Flush", l.Flush(m.end()), api.ErrDead)
			loose := len(d.Image().Log) - len(d.Lasts().Log)
			for n := range loose + 1 {
				other := d.Crash(api.Choice{Log: n})
				again := opened(t, other, 5)
				if len(d.Image().Log) == len(m.frames) { // it was appended
					wantLog(t, "cut", other, again, m.first(m.onDisk+n))
				} else {
					wantLog(t, "cut", other, again, m.first(m.onDisk))
				}
			}
		}
	}
}

func TestACrashWithinAFlushAndAnotherFlush(t *testing.T) { // P11.4, P11.9
	whole := modelOf(0, 4096, begin, update(3)).saved()
	old := len(whole.frames)
	for _, r := range some() {
		whole.add(r)
	}
	for n := range len(whole.frames) - old + 1 {
		d := withLog(t, 4096, whole.frames[:old])
		l := opened(t, d, 0)
		for _, r := range some() {
			l.Append(r)
		}
		d.Stop(2)
		wantErrno(t, "Flush", l.Flush(old+1), api.ErrDead)
		d = d.Crash(api.Choice{Log: n})
		l = opened(t, d, 0)
		m := whole.first(old + n)
		wantTold(t, "behind the crash", l, m)
		acts := 2
		if old+n > len(m.frames) {
			acts = 3
		}
		appended(t, d, l, m, update(7), commit)
		flushed(t, d, l, m, acts)
	}
}

func TestOldFramesBehindARenewThatIsCut(t *testing.T) { // P11.7, P11.9
	d, l, m := steps(t, nil)
	flushed(t, d, l, m, 2)
	d.Stop(1)
	base := m.end() - 1
	wantErrno(t, "Renew", l.Renew(base), api.ErrDead)
	d = d.Crash(api.Choice{})
	wantLog(t, "with the old base", d, opened(t, d, 5), m)
	l = opened(t, d, base) // the LSNs do not fit
	n := modelOf(base, 1024)
	wantLog(t, "with the new base", d, l, n)
	appended(t, d, l, n, begin)
	flushed(t, d, l, n, 3)
}

func TestLsnsRise(t *testing.T) { // P11.9
	random := rand.New(rand.NewSource(9))
	d := blank(t, 1024)
	l := opened(t, d, 0)
	last, renewed := 0, 0
	for range 3000 {
		r := some()[random.Intn(len(some()))]
		lsn, e := l.Append(r)
		if e == api.ErrRoom || random.Intn(30) == 0 {
			wantErrno(t, "Renew", l.Renew(l.End()-1+random.Intn(3)), api.OK)
			renewed++
			continue
		}
		if e != api.OK || lsn <= last {
			t.Fatalf("Append: %d, %d behind %d", e, lsn, last)
		}
		last = lsn
	}
	if renewed < 50 {
		t.Errorf("only %d times begun anew", renewed)
	}
}

// both is a log and what it must be, with its disk and what must be there.
type both struct {
	random *rand.Rand
	d      *disk.Disk
	l      *wal.Log
	m      *model
	log    []byte // the disk's
	lasts  int
}

func (b *both) record() api.Record { return some()[b.random.Intn(len(some()))] }

// looks looks at all of it.
func (b *both) looks(t *testing.T, what string) {
	t.Helper()
	wantTold(t, what, b.l, b.m)
	wantDisk(t, what, b.d, b.log, b.lasts)
	if b.random.Intn(4) == 0 {
		wantLog(t, what, b.d, b.l, b.m)
	}
}

// append appends a right record or a wrong one.
func (b *both) append(t *testing.T) {
	r := b.record()
	switch {
	case b.random.Intn(10) == 0:
		wantRefused(t, b.l, wrong()[b.random.Intn(len(wrong()))], api.ErrRecord)
	case b.m.fits(r):
		appended(t, b.d, b.l, b.m, r)
	default:
		wantRefused(t, b.l, r, api.ErrRoom)
	}
}

// behind tells whether something is behind.
func (b *both) behind() bool { return len(b.log) > b.m.onDisk }

// flushing gives what each act of a flush does.
func (b *both) flushing() []func() {
	var acts []func()
	if b.behind() {
		acts = append(acts, b.cut)
	}
	return append(acts, func() { b.log = slices.Clone(b.m.frames) }, func() { b.lasts = len(b.log) })
}

func (b *both) cut() {
	b.log = b.log[:b.m.onDisk]
	b.lasts = min(b.lasts, len(b.log))
}

// stopped does the acts that are done ahead of a stop, and tells what the call answers.
func (b *both) stopped(stop int, acts []func()) api.Errno {
	for i, act := range acts {
		if i+1 == stop {
			return api.ErrDead
		}
		act()
	}
	return api.OK
}

func (b *both) flush(t *testing.T, stop int) api.Errno {
	lsn := b.m.flushed() + b.random.Intn(200) - 50
	if lsn < b.m.flushed() || b.m.onDisk == len(b.m.frames) {
		wantActs(t, "Flush of nothing", b.d, 0, func() { wantErrno(t, "Flush", b.l.Flush(lsn), api.OK) })
		return api.OK
	}
	want := b.stopped(stop, b.flushing())
	wantErrno(t, "Flush", b.l.Flush(lsn), want)
	if want == api.OK {
		b.m.onDisk = len(b.m.frames)
	}
	return want
}

func (b *both) trim(t *testing.T, stop int) api.Errno {
	want := api.OK
	if b.behind() {
		want = b.stopped(stop, []func(){b.cut})
	}
	wantErrno(t, "Trim", b.l.Trim(), want)
	return want
}

func (b *both) renew(t *testing.T, stop int) api.Errno {
	base := b.m.end() - 1 + b.random.Intn(12) - 4
	if base < b.m.end()-1 {
		wantErrno(t, "Renew", b.l.Renew(base), api.ErrRange)
		return api.OK
	}
	want := b.stopped(stop, []func(){func() { b.m, b.log, b.lasts = modelOf(base, b.m.area), nil, 0 }})
	wantErrno(t, "Renew", b.l.Renew(base), want)
	return want
}

// crash opens what a crash leaves, and what it left is looked at.
func (b *both) crash(t *testing.T) {
	n := b.random.Intn(len(b.log) - b.lasts + 1)
	b.log = b.log[:b.lasts+n]
	b.lasts = len(b.log)
	b.d = b.d.Crash(api.Choice{Log: n})
	b.l = opened(t, b.d, b.m.base)
	common := 0
	for common < min(len(b.log), len(b.m.frames)) && b.log[common] == b.m.frames[common] {
		common++
	}
	lasting := b.m.onDisk
	b.m = b.m.first(common)
	if b.m.onDisk < lasting {
		t.Fatalf("a crash took what was flushed: %d bytes, want %d", b.m.onDisk, lasting)
	}
	wantLog(t, "behind a crash", b.d, b.l, b.m)
}

func TestLongRun(t *testing.T) { // P11.1 to P11.9
	crashes, rooms := 0, 0
	for seed := range int64(40) {
		random := rand.New(rand.NewSource(seed))
		area, base := 1024+random.Intn(1500), random.Intn(1000)
		b := &both{random: random, d: blank(t, area), m: modelOf(base, area)}
		b.l = opened(t, b.d, base)
		for range 300 {
			stop := 0
			if random.Intn(12) == 0 {
				stop = 1 + random.Intn(3)
			}
			b.d.Stop(stop)
			e, what := api.OK, ""
			switch n := random.Intn(40); {
			case n < 24:
				what = "Append"
				b.append(t)
			case n < 34:
				what, e = "Flush", b.flush(t, stop)
			case n < 37:
				what, e = "Trim", b.trim(t, stop)
			case n < 38:
				what, e = "Renew", b.renew(t, stop)
			default:
				what, e = "Crash", api.ErrDead
			}
			if !b.m.fits(commit) {
				rooms++
			}
			b.d.Stop(0)
			if e == api.ErrDead {
				crashes++
				b.crash(t)
			}
			b.looks(t, what)
		}
	}
	if crashes < 500 || rooms < 100 {
		t.Errorf("%d crashes, %d full logs: the run does not try them", crashes, rooms)
	}
}
