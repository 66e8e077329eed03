package duel_test

import (
	"bytes"
	"cmp"
	"math/rand"
	"slices"
	"testing"

	"tidemark/api"
	"tidemark/disk"
	"tidemark/duel"
	"tidemark/engine"
	"tidemark/master"
	"tidemark/page"
	"tidemark/pair"
	"tidemark/sound"
)

// life is an engine on a disk, used till the disk dies.
type life struct {
	t    *testing.T
	dice *rand.Rand
	c    api.Config
	e    *engine.Engine
	d    *disk.Disk

	images, winners, losers, less, parted, torn int // how many images were looked at; of these, those with winners, with losers, of which Choose lays less, whose pages' bytes part, with a tear
}

func born(t *testing.T, seed int64) *life {
	t.Helper()
	r := rand.New(rand.NewSource(seed))
	c := api.Config{Shape: api.Shape{Pages: 1 + r.Intn(6), Slots: 1 + r.Intn(3), Log: 1024 + r.Intn(3000)}, Frames: 2 + r.Intn(3), Table: 1 + r.Intn(8), Keys: 40}
	e, f := engine.Create(c)
	ok(t, "Create", f)
	return &life{t: t, dice: r, c: c, e: e, d: e.Disk()}
}

// step does one call, whatever it answers.
func (l *life) step() {
	r := l.dice
	id, key, pick := 1+r.Intn(l.c.Table), r.Intn(l.c.Keys), r.Intn(9)
	switch k := r.Intn(40); {
	case k < 8:
		l.e.Begin(id)
	case k < 22:
		l.e.Put(id, key, r.Uint64()>>r.Intn(60), pick)
	case k < 26:
		l.e.Delete(id, key, pick)
	case k < 29:
		l.e.Clean(r.Intn(l.c.Shape.Pages))
	case k < 34:
		l.e.Commit(id)
	case k < 37:
		l.e.Abort(id, pick)
	case k < 39:
		l.e.Checkpoint()
	default:
		l.e.Renew()
	}
}

func (l *life) goOn(calls int) {
	for i := 0; i < calls && !l.d.Dead(); i++ {
		l.step()
	}
}

// choice is what a crash may leave.
func (l *life) choice() api.Choice {
	r := l.dice
	log := []int{0, -1, r.Intn(60), r.Intn(1000)}[r.Intn(4)]
	keep := [][]int{nil, {1}, {0, 1}, {1, 0}, {r.Intn(150), r.Intn(150)}, {r.Intn(80)}}[r.Intn(6)]
	return api.Choice{Log: log, Keep: keep}
}

func (l *life) manager() int { return []int{api.Aries, api.Choose}[l.dice.Intn(2)] }

// dump tells all entries of an image's pages, by key.
func dump(m api.Image) (all []api.Entry) {
	for _, b := range m.Pages {
		for _, x := range page.Entries(b) {
			all = append(all, x)
		}
	}
	slices.SortFunc(all, func(a, b api.Entry) int { return cmp.Compare(a.Key, b.Key) })
	return all
}

// holds looks at an image that the run has reached, and tells what is left of it.
func (l *life) holds(what string, m api.Image) []api.Entry {
	l.t.Helper()
	v, e := run(l.t, l.c.Shape, m, 2+l.dice.Intn(15))
	if e != api.OK || !v.Same {
		l.t.Fatalf("%s: %v, %d", what, v, e)
	}
	left := dump(v.Left)
	if !slices.Equal(left, dump(v.Right)) {
		l.t.Errorf("%s: Aries leaves %v, Choose %v", what, left, dump(v.Right))
	}
	again(l.t, l.c.Shape, v)
	l.counts(m, v)
	return left
}

func (l *life) counts(m api.Image, v duel.Verdict) {
	l.images++
	l.winners += min(1, len(v.A.Winners))
	l.losers += min(1, len(v.A.Losers))
	l.less += min(1, v.A.Redone-v.B.Redone)
	if !samePages(v.Left, v.Right) {
		l.parted++
	}
	for number, b := range m.Pages {
		if _, e := page.Check(b, number, l.c.Shape.Slots); e != api.OK {
			l.torn++
		}
	}
	if _, _, e := pair.Parse(m.Pair, l.c.Shape.Pages, l.c.Shape.Slots); e != api.OK && !isZeros(m.Pair) {
		l.torn++
	}
}

// reopened has a restart, which may be cut many times, set the disk right.
func (l *life) reopened() {
	l.t.Helper()
	d := l.d.Crash(l.choice())
	first := l.holds("behind a crash", d.Lasts())
	for {
		d.Stop(l.dice.Intn(60))
		e, _, f := engine.Open(d, l.c, l.manager())
		if f == api.OK {
			d.Stop(0)
			l.d, l.e = d, e
			if now := l.holds("behind a restart", d.Image()); !slices.Equal(now, first) {
				l.t.Errorf("a restart leaves %v, want %v", now, first)
			}
			return
		}
		if f != api.ErrDead {
			l.t.Fatalf("Open: %d", f)
		}
		d = d.Crash(l.choice())
		if now := l.holds("behind a cut restart", d.Lasts()); !slices.Equal(now, first) {
			l.t.Errorf("behind a cut restart %v is left, want %v", now, first)
		}
	}
}

// Of the images of runs through crashes and cut restarts both managers leave the same.
func TestRuns(t *testing.T) { // P29.4 (W3, W5)
	var sum life
	for seed := range int64(200) {
		l := born(t, seed)
		for range 6 {
			l.d.Stop(l.dice.Intn(90))
			l.goOn(l.dice.Intn(90))
			l.holds("in the midst", l.d.Lasts())
			l.d.Stop(0)
			l.reopened()
			if t.Failed() {
				t.Fatalf("seed %d", seed)
			}
		}
		sum.images, sum.winners, sum.losers = sum.images+l.images, sum.winners+l.winners, sum.losers+l.losers
		sum.less, sum.parted, sum.torn = sum.less+l.less, sum.parted+l.parted, sum.torn+l.torn
	}
	if sum.images < 4000 || sum.winners < 1000 || sum.losers < 1500 || sum.less < 500 || sum.parted < 500 || sum.torn < 20 {
		t.Errorf("only %d images, %d with winners, %d with losers, %d with less to lay, %d with pages that part, %d tears", sum.images, sum.winners, sum.losers, sum.less, sum.parted, sum.torn)
	}
}

// So it is where a run is cut at each act, whatever is kept.
func TestCutAtEachAct(t *testing.T) { // P29.4 (W3)
	images := 0
	for seed := range int64(8) {
		for stop := 1; ; stop++ {
			l := born(t, 1000+seed)
			l.d.Stop(stop)
			l.goOn(60)
			if !l.d.Dead() {
				break
			}
			for _, c := range []api.Choice{{}, {Log: -1, Keep: []int{1}}, l.choice(), l.choice()} {
				l.holds("cut", l.d.Crash(c).Image())
			}
			images += l.images
			if t.Failed() {
				t.Fatalf("seed %d, stop %d", seed, stop)
			}
		}
	}
	if images < 800 {
		t.Errorf("only %d images", images)
	}
}

// A run goes on upon what either manager leaves, with the same answers.
func TestGoOnBehindEither(t *testing.T) { // P29.4 (W3)
	changed := 0
	for seed := range int64(60) {
		l := born(t, 5000+seed)
		l.d.Stop(30 + l.dice.Intn(60))
		l.goOn(100)
		v, e := run(t, l.c.Shape, l.d.Crash(l.choice()).Image(), 2)
		ok(t, "Run", e)
		var dumps [2][]api.Entry
		for i, m := range []api.Image{v.Left, v.Right} {
			d, e := disk.Load(l.c.Shape, m)
			ok(t, "Load", e)
			x := &life{t: t, dice: rand.New(rand.NewSource(seed)), c: l.c, d: d}
			x.e, _, e = engine.Open(d, l.c, x.manager())
			ok(t, "Open", e)
			x.goOn(60)
			dumps[i] = x.holds("gone on", d.Image())
		}
		if !slices.Equal(dumps[0], dumps[1]) {
			t.Errorf("seed %d: %v behind Aries, %v behind Choose", seed, dumps[0], dumps[1])
		}
		if !slices.Equal(dumps[0], dump(v.Left)) {
			changed++
		}
	}
	if changed < 30 {
		t.Errorf("only %d have changed", changed)
	}
}

// anyImage looks at an image that need not be one of a run's: both managers take it or none does, as sound says; and a second Run of what they leave does nothing.
func anyImage(t *testing.T, s api.Shape, m api.Image, frames int) (duel.Verdict, api.Errno) {
	t.Helper()
	v, e := run(t, s, m, frames)
	if isSound := sound.Check(s, m) == 0; isSound != (e == api.OK) {
		t.Errorf("Run: %d, of an image that is sound: %v", e, isSound)
	}
	if e != api.OK {
		return v, e
	}
	if !sameButRedone(v.A, v.B) || !bytes.Equal(v.Left.Masters[0], v.Right.Masters[0]) || !bytes.Equal(v.Left.Masters[1], v.Right.Masters[1]) || len(v.Left.Log)+len(v.Right.Log) != 0 {
		t.Errorf("more parts than the slots: %v", v)
	}
	again(t, s, v)
	return v, e
}

func TestAnyBytes(t *testing.T) { // P29.1, P29.4 (W4): images of random bytes
	dice := rand.New(rand.NewSource(1))
	for range 400 {
		s := api.Shape{Pages: 1 + dice.Intn(4), Slots: 1 + dice.Intn(2), Log: 1024}
		w := made(t, s)
		w.m.Log = make([]byte, dice.Intn(200))
		if dice.Intn(2) == 0 {
			w.says(master.State{Turn: 1 + dice.Intn(5), Base: dice.Intn(300)})
		}
		parts := append([][]byte{w.m.Pair, w.m.Log, w.m.Masters[0], w.m.Masters[1]}, w.m.Pages...)
		for range dice.Intn(3) {
			dice.Read(parts[dice.Intn(len(parts))])
		}
		anyImage(t, s, w.m, 2+dice.Intn(15))
	}
}

// Logs whose records are right, one by one, whatever they say together, and pages that no run leaves beside them.
func TestAnyRecords(t *testing.T) { // P29.1, P29.2, P29.4
	same, parted, refused := 0, 0, 0
	dice := rand.New(rand.NewSource(2))
	for i := range 4000 {
		s := api.Shape{Pages: 1 + dice.Intn(3), Slots: 1, Log: 1024 + dice.Intn(200)}
		w := named(t, s, dice.Intn(2)*dice.Intn(500))
		births := []int{}
		for range dice.Intn(12) {
			births = anyRecord(w, dice, births)
		}
		if len(w.m.Log) > s.Log {
			continue
		}
		for number := range s.Pages {
			if dice.Intn(2) == 0 {
				early := min(w.next(), w.base+35) // a page that lacks all updates
				w.page(number, dice.Intn([]int{early, w.next()}[dice.Intn(2)]), 16+dice.Intn(10), byte(1+dice.Intn(255)))
			}
		}
		v, e := anyImage(t, s, w.m, 2+dice.Intn(15))
		switch {
		case e != api.OK:
			refused++
		case v.Same:
			same++
		default:
			parted++
		}
		if t.Failed() {
			t.Fatalf("image %d", i)
		}
	}
	if same < 500 || parted < 60 || refused < 500 {
		t.Errorf("only %d same, %d parted, %d refused", same, parted, refused)
	}
}

func anyRecord(w *world, dice *rand.Rand, births []int) []int {
	if len(births) == 0 || dice.Intn(4) == 0 {
		return append(births, w.begin(1+dice.Intn(20)))
	}
	birth := births[dice.Intn(len(births))]
	number, from := dice.Intn(w.shape.Pages), 16+dice.Intn(10)
	switch dice.Intn(12) {
	case 0:
		w.commit(birth)
	case 1:
		w.abort(birth)
	case 2:
		w.end(birth)
	case 3:
		w.log(api.Record{Kind: api.KCheck, Dirty: []api.Rec{{Page: number, Lsn: w.next()}}})
	case 4:
		at := w.update(birth, number, from, 1+dice.Intn(5), 6)
		w.undo(birth, number, from, 3, dice.Intn(2)*at)
	default:
		w.update(birth, birth%w.shape.Pages, from, 1+dice.Intn(6), byte(1+dice.Intn(255)))
	}
	return births
}

// Images of runs in which one byte is another one.
func TestTurnedByte(t *testing.T) { // P29.1, P29.4 (W4)
	taken, refused := 0, 0
	for seed := range int64(40) {
		l := born(t, 9000+seed)
		l.d.Stop(20 + l.dice.Intn(60))
		l.goOn(90)
		for range 40 {
			m := l.d.Crash(l.choice()).Image()
			parts := append([][]byte{m.Pair, m.Masters[0], m.Masters[1]}, m.Pages...)
			if len(m.Log) > 0 {
				parts = append(parts, m.Log)
			}
			b := parts[l.dice.Intn(len(parts))]
			b[l.dice.Intn(len(b))] ^= byte(1 + l.dice.Intn(255))
			if _, e := anyImage(t, l.c.Shape, m, 2); e == api.OK {
				taken++
			} else {
				refused++
			}
		}
		if t.Failed() {
			t.Fatalf("seed %d", seed)
		}
	}
	if taken < 300 || refused < 300 {
		t.Errorf("only %d taken, %d refused", taken, refused)
	}
}
