package replay_test

import (
	"cmp"
	"math/rand"
	"slices"
	"testing"

	"tidemark/api"
	"tidemark/disk"
	"tidemark/engine"
	"tidemark/master"
	"tidemark/page"
	"tidemark/plain"
	"tidemark/replay"
	"tidemark/restart"
)

// life is an engine on a disk, used till the disk dies.
type life struct {
	t    *testing.T
	dice *rand.Rand
	c    api.Config
	e    *engine.Engine
	d    *disk.Disk

	stood map[int][][]byte // by base: the pages as they stood at it

	images, early, winners, losers int // how many images were looked at; of these, those whose pages have LSNs of at most the base
}

func born(t *testing.T, seed int64, c api.Config) *life {
	t.Helper()
	e, f := engine.Create(c)
	if f != api.OK {
		t.Fatalf("Create: %d", f)
	}
	l := &life{t: t, dice: rand.New(rand.NewSource(seed)), c: c, e: e, d: e.Disk(), stood: map[int][][]byte{}}
	l.at(l.d.Image())
	return l
}

// anyConfig has now as many frames as pages, so that pages stay where they are, now fewer.
func anyConfig(seed int64) api.Config {
	r := rand.New(rand.NewSource(seed))
	return api.Config{Shape: api.Shape{Pages: 1 + r.Intn(6), Slots: 1 + r.Intn(3), Log: 1024 + r.Intn(3000)}, Frames: 2 + r.Intn(6), Table: 1 + r.Intn(8), Keys: 40}
}

// step does one call, whatever it answers.
func (l *life) step() {
	r := l.dice
	id, key, pick := 1+r.Intn(l.c.Table), r.Intn(l.c.Keys), r.Intn(9)
	switch k := r.Intn(60); {
	case k < 12:
		l.e.Begin(id)
	case k < 34:
		l.e.Put(id, key, r.Uint64()>>r.Intn(60), pick)
	case k < 40:
		l.e.Delete(id, key, pick)
	case k < 41:
		l.e.Clean(r.Intn(l.c.Shape.Pages))
	case k < 50:
		l.e.Commit(id)
	case k < 55:
		l.e.Abort(id, pick)
	case k < 57:
		l.e.Checkpoint()
	default:
		l.e.Renew()
	}
	l.at(l.d.Image())
}

// at tells an image's base, and the pages as they stood at it: those of the first image that has it, since all are written ahead of its master.
func (l *life) at(m api.Image) (int, [][]byte) {
	l.t.Helper()
	base := l.baseOf(m)
	if l.stood[base] == nil {
		l.stood[base] = m.Pages
	}
	return base, l.stood[base]
}

func (l *life) baseOf(m api.Image) int {
	l.t.Helper()
	s, _, e := master.Newest(l.load(m))
	if e != api.OK {
		l.t.Fatalf("Newest: %d", e)
	}
	return s.Base
}

func (l *life) load(m api.Image) *disk.Disk {
	l.t.Helper()
	d, e := disk.Load(l.c.Shape, m)
	if e != api.OK {
		l.t.Fatalf("Load: %d", e)
	}
	return d
}

func (l *life) goOn(calls int) {
	for i := 0; i < calls && !l.d.Dead(); i++ {
		l.step()
	}
}

// choice is what a crash may leave.
func (l *life) choice() api.Choice {
	r := l.dice
	log := []int{0, -1, r.Intn(60), r.Intn(1000)}[r.Intn(4)]
	keep := [][]int{nil, {1}, {0, 1}, {1, 0}, {r.Intn(150), r.Intn(150)}, {r.Intn(80)}}[r.Intn(6)]
	return api.Choice{Log: log, Keep: keep}
}

func (l *life) manager() int { return []int{api.Aries, api.Choose}[l.dice.Intn(2)] }

// isEarly tells whether all pages are right, with LSNs of at most the base.
func (l *life) isEarly(m api.Image, base int) bool {
	for number, b := range m.Pages {
		if lsn, e := page.Check(b, number, l.c.Shape.Slots); e != api.OK || lsn > base {
			return false
		}
	}
	return true
}

// holds looks at an image that the run has reached: what both managers leave of it is what replay tells.
func (l *life) holds(what string, m api.Image) {
	l.t.Helper()
	base, stood := l.at(m)
	want, e := replay.Committed(stood, m.Log, base)
	h, f := replay.History(m.Log, base)
	if e != api.OK || f != api.OK {
		l.t.Errorf("%s: Committed %d, History %d", what, e, f)
		return
	}
	l.images++
	if l.isEarly(m, base) {
		l.early++
		leaves(l.t, what+", by the image alone", m.Pages, m.Log, base, want)
	}
	l.winners += min(1, len(h))
	births := []int{}
	for _, x := range h {
		births = append(births, x.Birth)
	}
	slices.Sort(births)
	for _, manager := range []int{api.Aries, api.Choose} {
		d := l.load(m)
		rep, e := restart.Run(d, 2+l.dice.Intn(15), manager)
		if e != api.OK || !slices.Equal(rep.Winners, births) {
			l.t.Errorf("%s: a restart by %d: %v, %d, want the winners %v", what, manager, rep, e, births)
		}
		if got := laid(d.Image().Pages, nil); !sameBytes(got, want) {
			l.t.Errorf("%s: a restart by %d leaves % x, want % x", what, manager, got, want)
		}
		l.losers += min(1, len(rep.Losers))
	}
}

func (l *life) all(what string, d *disk.Disk) {
	l.t.Helper()
	l.holds(what, d.Lasts())
	l.holds(what+", with what is loose", d.Crash(api.Choice{Log: -1, Keep: []int{1}}).Image())
}

// reopened has a restart, which may be cut many times, set the disk right.
func (l *life) reopened() {
	l.t.Helper()
	for {
		d := l.d.Crash(l.choice())
		l.all("behind a crash", d)
		d.Stop(l.dice.Intn(60))
		e, _, f := engine.Open(d, l.c, l.manager())
		l.d, l.e = d, e
		if f == api.OK {
			d.Stop(0)
			l.all("behind a restart", d)
			return
		}
		if f != api.ErrDead {
			l.t.Fatalf("Open: %d", f)
		}
	}
}

// Of the images of runs through crashes and cut restarts both managers leave what Committed tells.
func TestRestarts(t *testing.T) { // P28.5
	images, early, winners, losers := 0, 0, 0, 0
	for seed := range int64(250) {
		l := born(t, seed, anyConfig(seed))
		for range 6 {
			l.d.Stop(l.dice.Intn(90))
			l.goOn(l.dice.Intn(100))
			l.d.Stop(0)
			l.reopened()
			if t.Failed() {
				t.Fatalf("seed %d", seed)
			}
		}
		images, early, winners, losers = images+l.images, early+l.early, winners+l.winners, losers+l.losers
	}
	if images < 4000 || early < 2000 || winners < 800 || losers < 1500 {
		t.Errorf("only %d images, %d early, %d with winners, %d with losers", images, early, winners, losers)
	}
}

// So it is where a run is cut at each act, whatever is kept.
func TestCutAtEachAct(t *testing.T) { // P28.5
	early := 0
	for seed := range int64(10) {
		for stop := 1; ; stop++ {
			l := born(t, 1000+seed, anyConfig(seed))
			l.d.Stop(stop)
			l.goOn(70)
			if !l.d.Dead() {
				break
			}
			for _, c := range []api.Choice{{}, {Log: -1, Keep: []int{1}}, l.choice(), l.choice()} {
				l.holds("cut", l.d.Crash(c).Image())
			}
			early += l.early
			if t.Failed() {
				t.Fatalf("seed %d, stop %d", seed, stop)
			}
		}
	}
	if early < 500 {
		t.Errorf("only %d early images", early)
	}
}

// entriesOf tells what slots hold, by key.
func entriesOf(slots [][]byte) []api.Entry {
	var list []api.Entry
	for _, b := range slots {
		sheet := append(make([]byte, 16), b...)
		for _, x := range page.Entries(append(sheet, make([]byte, 8)...)) {
			list = append(list, x)
		}
	}
	slices.SortFunc(list, func(a, b api.Entry) int { return cmp.Compare(a.Key, b.Key) })
	return list
}

// twin does one call of an engine and of the model.
func (l *life) twin(z *plain.State) {
	r := l.dice
	id, key, value := 1+r.Intn(l.c.Table), r.Intn(l.c.Keys), r.Uint64()>>r.Intn(60)
	var got, want api.Errno
	switch k := r.Intn(60); {
	case k < 12:
		got, want = l.e.Begin(id), z.Begin(id)
	case k < 34:
		got, want = l.e.Put(id, key, value, r.Intn(9)), z.Put(id, key, value)
	case k < 40:
		_, got = l.e.Delete(id, key, r.Intn(9))
		_, want = z.Delete(id, key)
	case k < 50:
		got, want = l.e.Commit(id), z.Commit(id)
	case k < 55:
		got, want = l.e.Abort(id, r.Intn(9)), z.Abort(id)
	default:
		got, want = l.e.Renew(), z.Renew()
	}
	if got != want {
		l.t.Fatalf("the engine answers %d, the model %d", got, want)
	}
}

// In a run without a crash the log tells what the model has done: who committed, in which order, with how many changes, and what that leaves.
func TestModel(t *testing.T) { // P28.1, P28.2, P28.5 (W1)
	most, renewed := 0, 0
	for seed := range int64(120) {
		l := born(t, 7000+seed, anyConfig(seed))
		z, f := plain.New(l.c)
		if f != api.OK {
			t.Fatalf("plain.New: %d", f)
		}
		was, ahead := 0, 0 // how many had committed at the base
		for range 150 {
			l.twin(z)
			m, done := l.d.Image(), z.Done()
			base, stood := l.at(m)
			if base != was {
				was, ahead = base, len(done)
				renewed++
			}
			h, e := replay.History(m.Log, base)
			if e != api.OK || len(h) != len(done)-ahead {
				t.Fatalf("seed %d: %d winners, %d, want %d", seed, len(h), e, len(done)-ahead)
			}
			for i, x := range h {
				if len(x.Changes) != len(done[ahead+i]) {
					t.Errorf("seed %d: winner %d: %+v, want as many as %v", seed, i, x, done[ahead+i])
				}
			}
			c, e := replay.Committed(stood, m.Log, base)
			if got, want := entriesOf(c), plain.Fold(done...); e != api.OK || !slices.Equal(got, want) {
				t.Fatalf("seed %d: %v, %d, want %v", seed, got, e, want)
			}
			most = max(most, len(h))
		}
	}
	if most < 6 || renewed < 100 {
		t.Errorf("at most %d winners, %d logs begun anew", most, renewed)
	}
}
