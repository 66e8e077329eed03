package engine_test

import (
	"math/rand"
	"slices"
	"testing"

	"tidemark/api"
	"tidemark/disk"
	"tidemark/engine"
	"tidemark/plain"
)

// life is a database through its crashes: what was committed, what is open, and what a cut commit may have left.
type life struct {
	*run
	dice *rand.Rand
	c    api.Config

	done  [][]plain.Change
	open  map[int][]plain.Change
	maybe []plain.Change // of the transaction whose commit was cut; none, if none was
	isCut bool           // the engine has met ErrDead
}

func born(t *testing.T, seed int64) *life {
	t.Helper()
	r := rand.New(rand.NewSource(seed))
	c := someConfig(r)
	return &life{run: create(t, c), dice: r, c: c, open: map[int][]plain.Change{}}
}

// sees gives what a transaction must see: what was committed, and what it did itself.
func (l *life) sees(id, key int) (uint64, bool) {
	for _, x := range plain.Fold(append(slices.Clone(l.done), l.open[id])...) {
		if x.Key == key {
			return x.Value, true
		}
	}
	return 0, false
}

// met marks that the disk has died.
func (l *life) met(f api.Errno) api.Errno {
	l.isCut = l.isCut || f == api.ErrDead
	return f
}

func (l *life) step() {
	l.t.Helper()
	r := l.dice
	id, key, pick := 1+r.Intn(l.c.Table), r.Intn(l.c.Keys), r.Intn(9)
	switch k := r.Intn(50); {
	case k < 10:
		if l.met(l.e.Begin(id)) == api.OK {
			l.open[id] = nil
		}
	case k < 14:
		v, there, f := l.e.Get(id, key, pick)
		if want, is := l.sees(id, key); l.met(f) == api.OK && (v != want || there != is) {
			l.t.Errorf("Get(%d, %d): %d, %v, want %d, %v", id, key, v, there, want, is)
		}
	case k < 28:
		v := someValue(r)
		l.changed(id, l.e.Put(id, key, v, pick), plain.Change{Key: key, Value: v})
	case k < 32:
		gone, f := l.e.Delete(id, key, pick)
		if !gone {
			key = -1 // no key of the pages
		}
		l.changed(id, f, plain.Change{Key: key, Gone: true})
	case k < 38:
		l.commit(id)
	case k < 41:
		if l.met(l.e.Abort(id, pick)) == api.OK {
			delete(l.open, id)
		}
	case k < 44:
		l.met(l.e.Clean(r.Intn(l.c.Shape.Pages)))
	case k < 46:
		l.met(l.e.Checkpoint())
	case k < 48:
		l.met(l.e.Renew())
	default:
		got, f := l.e.Dump()
		if want := plain.Fold(l.done...); l.met(f) == api.OK && !slices.Equal(got, want) {
			l.t.Errorf("Dump: %v, want %v", got, want)
		}
	}
}

func (l *life) changed(id int, f api.Errno, c plain.Change) {
	switch l.met(f) {
	case api.OK:
		l.open[id] = append(l.open[id], c)
	case api.ErrLog:
		delete(l.open, id)
	}
}

func (l *life) commit(id int) {
	f := l.met(l.e.Commit(id))
	switch f {
	case api.OK:
		l.done = append(l.done, l.open[id])
		delete(l.open, id)
	case api.ErrDead:
		l.maybe = l.open[id]
	}
}

// goOn does so many calls, or as many as the disk lives.
func (l *life) goOn(calls int) {
	l.t.Helper()
	for i := 0; i < calls && !l.isCut; i++ {
		l.step()
	}
}

// cutCommit has the disk die within the commit of an open transaction, if there is one and the disk lives.
func (l *life) cutCommit() {
	for id := range api.MaxId {
		if _, is := l.open[id]; is && !l.isCut {
			l.d.Stop(1 + l.dice.Intn(2))
			l.commit(id)
		}
	}
}

// choice is what a crash may leave.
func (l *life) choice() api.Choice {
	r := l.dice
	log := []int{0, -1, r.Intn(60), r.Intn(1000)}[r.Intn(4)]
	keep := [][]int{nil, {1}, {0, 1}, {1, 0}, {r.Intn(150), r.Intn(150)}, {r.Intn(80)}}[r.Intn(6)]
	return api.Choice{Log: log, Keep: keep}
}

func (l *life) manager() int { return []int{api.Aries, api.Choose}[l.dice.Intn(2)] }

// another gives another configuration for the same disk, in which all keys may be asked for.
func (l *life) another() api.Config {
	c := someConfig(l.dice)
	c.Shape, c.Keys = l.c.Shape, l.c.Keys
	return c
}

// reopened goes on with an engine that Open gave: what is there must be what the committed left, with the cut one or without.
func (l *life) reopened(x *run, c api.Config) {
	l.t.Helper()
	x.ids()
	x.used(0, 0)
	got, f := x.e.Dump()
	ok(l.t, "Dump", f)
	if !slices.Equal(got, plain.Fold(l.done...)) {
		l.done = append(l.done, l.maybe)
	}
	if want := plain.Fold(l.done...); !slices.Equal(got, want) {
		l.t.Errorf("behind a crash there is %v, committed were %v", got, want)
	}
	l.run, l.c = x, c
	l.open, l.maybe, l.isCut = map[int][]plain.Change{}, nil, false
}

// both opens copies of a disk by both managers, and looks that they tell and leave the same.
func (l *life) both(d *disk.Disk) []api.Entry {
	l.t.Helper()
	var reports [2]api.Report
	var dumps [2][]api.Entry
	for i, manager := range []int{api.Aries, api.Choose} {
		x, r := opens(l.t, d.Copy(), l.another(), manager)
		dumps[i], _ = x.e.Dump()
		r.Redone = 0
		reports[i] = r
	}
	if !sameReport(reports[0], reports[1]) || !slices.Equal(dumps[0], dumps[1]) {
		l.t.Errorf("Aries: %v, %v; Choose: %v, %v", reports[0], dumps[0], reports[1], dumps[1])
	}
	return dumps[0]
}

// again opens once more what an engine has just opened: nothing is told, and nothing is another.
func (l *life) again() {
	l.t.Helper()
	was, f := l.e.Dump()
	ok(l.t, "Dump", f)
	d := l.d
	switch l.dice.Intn(3) {
	case 0:
		d = d.Crash(l.choice())
	case 1:
		d = d.Copy()
	default:
		l.want("Close", l.e.Close(), api.OK)
	}
	c := l.another()
	x, r := opens(l.t, d, c, l.manager())
	if !isEmpty(r) {
		l.t.Errorf("a second Open tells %v", r)
	}
	x.dumps(was...)
	l.reopened(x, c)
}

// A database lives through crashes, within restarts too, whatever they leave, with a manager picked anew each time.
func TestLives(t *testing.T) { // P26.8: W2, W3, W5
	committed, cuts, cutCommits, kept := 0, 0, 0, 0
	for seed := range int64(250) {
		l := born(t, seed)
		for range 8 {
			l.d.Stop(l.dice.Intn(90))
			l.goOn(80)
			l.cutCommit()
			l.d.Stop(0)
			d := l.d.Crash(l.choice())
			was, had := len(l.done), l.maybe != nil
			for {
				want := l.both(d)
				d.Stop(l.dice.Intn(60))
				c := l.another()
				e, _, f := engine.Open(d, c, l.manager())
				if f == api.OK {
					d.Stop(0)
					x := on(t, e)
					x.dumps(want...)
					l.reopened(x, c)
					break
				}
				if f != api.ErrDead {
					t.Fatalf("seed %d: Open: %d", seed, f)
				}
				cuts++
				d = d.Crash(l.choice())
			}
			if had {
				cutCommits++
				kept += len(l.done) - was
			}
			l.again()
			if t.Failed() {
				t.Fatalf("seed %d", seed)
			}
		}
		committed += len(l.done)
	}
	if committed < 3000 || cuts < 1000 || cutCommits < 100 || kept < 30 || kept > cutCommits-30 {
		t.Errorf("only %d committed, %d restarts cut, %d commits cut, of which %d are kept", committed, cuts, cutCommits, kept)
	}
}

// Each act of a run is the one at which it is cut.
func TestRunsCutAtEachAct(t *testing.T) { // P26.8: W2
	images := 0
	for seed := range int64(25) {
		for stop := 1; ; stop++ {
			l := born(t, 1000+seed)
			l.d.Stop(stop)
			l.goOn(70)
			if !l.isCut {
				break
			}
			l.all(api.ErrDead)
			done, maybe := l.done, l.maybe
			old := l.run
			for _, choice := range []api.Choice{{}, {Log: -1, Keep: []int{1}}, l.choice(), l.choice()} {
				for _, manager := range []int{api.Aries, api.Choose} {
					l.run, l.done, l.maybe = old, slices.Clone(done), maybe
					c := l.another()
					x, _ := opens(t, old.d.Crash(choice), c, manager)
					l.reopened(x, c)
					images++
				}
			}
			if t.Failed() {
				t.Fatalf("seed %d, stop %d", seed, stop)
			}
			l.goOn(20)
		}
	}
	if images < 4000 {
		t.Errorf("only %d images", images)
	}
}

// Each act of Open is the one at which it is cut; the Open that ends leaves what one alone would have left.
func TestOpensCutAtEachAct(t *testing.T) { // P26.8: W5
	cuts, lost := 0, 0
	for seed := range int64(40) {
		l := born(t, 2000+seed)
		l.d.Stop(20 + l.dice.Intn(60))
		l.goOn(100)
		d := l.d.Crash(l.choice())
		want := l.both(d)
		for _, manager := range []int{api.Aries, api.Choose} {
			for stop := 1; ; stop++ {
				x := d.Copy()
				x.Stop(stop)
				e, r, f := engine.Open(x, l.c, manager)
				if f == api.OK {
					x.Stop(0)
					lost += len(r.Losers)
					on(t, e).dumps(want...)
					break
				}
				if e != nil || !isEmpty(r) || f != api.ErrDead {
					t.Fatalf("seed %d, stop %d: %v, %v, %d", seed, stop, e != nil, r, f)
				}
				cuts++
				for _, choice := range []api.Choice{{}, {Log: -1, Keep: []int{1}}, l.choice(), l.choice()} {
					l.opensAs(x.Crash(choice), want)
				}
				if t.Failed() {
					t.Fatalf("seed %d, stop %d", seed, stop)
				}
			}
		}
	}
	if cuts < 1500 || lost < 80 {
		t.Errorf("only %d cut, %d losers", cuts, lost)
	}
}

// opensAs cuts an Open once more, or not, and lets the next one end.
func (l *life) opensAs(d *disk.Disk, want []api.Entry) {
	l.t.Helper()
	x := d.Copy()
	x.Stop(1 + l.dice.Intn(40))
	if _, _, f := engine.Open(x, l.another(), l.manager()); f == api.ErrDead {
		d = x.Crash(l.choice())
	}
	c := l.another()
	y, _ := opens(l.t, d, c, l.manager())
	y.dumps(want...)
	y.e.Close()
	z, r := opens(l.t, d, c, l.manager())
	if !isEmpty(r) {
		l.t.Errorf("a second Open tells %v", r)
	}
	z.dumps(want...)
}
