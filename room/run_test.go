package room_test

import (
	"math/rand"
	"testing"

	"tidemark/api"
	"tidemark/room"
)

// few are the births and lengths of the runs: so few that they meet.
var (
	fewBirths  = []int{1, 35, 0, -5, 1<<32 + 1}
	fewLengths = []int{1, 9, 16, mostCount}
)

func one(r *rand.Rand, of []int) int {
	return of[r.Intn(len(of))]
}

// P17.3, P17.4 and P17.7: seeded runs of all calls, right and wrong, against the model.
func TestRuns(t *testing.T) {
	for seed := range int64(80) {
		r := rand.New(rand.NewSource(seed))
		w := begin(t, one(r, []int{1024, 65536, 1 << 20, -5, 0}))
		for range 400 {
			birth, n := one(r, fewBirths), one(r, fewLengths)
			if r.Intn(30) == 0 {
				n = one(r, noLengths())
			}
			switch k := r.Intn(20); {
			case k < 4:
				w.begin(birth)
			case k < 11:
				w.update(birth, n)
			case k < 18:
				w.undone(birth, n)
			default:
				w.drop(birth)
			}
			w.is(fewBirths...)
		}
		if t.Failed() {
			t.Fatalf("seed %d", seed)
		}
	}
}

// step is one call of a short run, over two births and two lengths.
func (w *world) step(n int) {
	w.t.Helper()
	birth, length := n%2, 15+n/2%2
	switch n / 4 {
	case 0:
		w.update(birth, length)
	case 1:
		w.undone(birth, length)
	case 2:
		w.begin(birth)
	default:
		w.drop(birth)
	}
}

// P17.3 and P17.4: all short runs, in each order.
func TestAllShortRuns(t *testing.T) {
	const steps, long = 14, 4
	for n := range steps * steps * steps * steps {
		w := begin(t, 400)
		for range long {
			w.step(n % steps)
			n /= steps
		}
		w.is(0, 1, 2)
	}
}

// P17.7: the order in which transactions begin and update is not to be seen.
func TestOrderPlaysNoPart(t *testing.T) {
	for seed := range int64(200) {
		r := rand.New(rand.NewSource(seed))
		w := begin(t, 1<<30)
		for _, i := range r.Perm(len(fewBirths)) {
			w.begin(fewBirths[i])
		}
		for _, k := range r.Perm(len(fewBirths) * len(fewLengths)) {
			w.update(fewBirths[k%len(fewBirths)], fewLengths[k/len(fewBirths)])
		}
		if n, want := w.r.Kept(), len(fewBirths)*(99+47+55+62+46+mostCount); n != want {
			t.Errorf("Kept(): %d, want %d", n, want)
		}
		w.is(fewBirths...)
		for _, i := range r.Perm(len(fewBirths)) {
			w.drop(fewBirths[i])
			w.is(fewBirths...)
		}
	}
}

// log is a log area that is filled as the layers above do: it asks for room ahead of begins and updates alone.
type log struct {
	t    *testing.T
	r    *room.Room
	area int
	used int
	open map[int][]int // each birth's updates that are not undone
}

// appends has a frame take its place, for which there must be room, with all that is kept behind it.
func (l *log) appends(kind, n int) {
	l.t.Helper()
	l.used += room.Frame(kind, n, 0)
	if !l.r.Fits(l.used, 0, 0) || l.used+l.r.Kept() > l.area {
		l.t.Fatalf("a frame of kind %d, %d bytes: used %d, Kept(): %d, area %d", kind, n, l.used, l.r.Kept(), l.area)
	}
}

func (l *log) begin() {
	l.t.Helper()
	if !l.r.Fits(l.used, room.Frame(api.KBegin, 0, 0), 99) {
		return
	}
	birth := l.used + 1
	if e := l.r.Begin(birth); e != api.OK {
		l.t.Fatalf("Begin(%d): %d", birth, e)
	}
	l.open[birth] = nil
	l.appends(api.KBegin, 0)
}

func (l *log) update(birth, n int) {
	l.t.Helper()
	if !l.r.Fits(l.used, room.Frame(api.KUpdate, n, 0), room.Frame(api.KUndo, n, 0)) {
		return
	}
	if e := l.r.Update(birth, n); e != api.OK {
		l.t.Fatalf("Update(%d, %d): %d", birth, n, e)
	}
	l.open[birth] = append(l.open[birth], n)
	l.appends(api.KUpdate, n)
}

// undo has the last update undone.
func (l *log) undo(birth int) {
	l.t.Helper()
	last := len(l.open[birth]) - 1
	n := l.open[birth][last]
	l.open[birth] = l.open[birth][:last]
	if e := l.r.Undone(birth, n); e != api.OK {
		l.t.Fatalf("Undone(%d, %d): %d", birth, n, e)
	}
	l.appends(api.KUndo, n)
}

// ends lets a transaction go by all three frames that it kept, the most that it may need.
func (l *log) ends(birth int) {
	l.t.Helper()
	if e := l.r.Drop(birth); e != api.OK {
		l.t.Fatalf("Drop(%d): %d", birth, e)
	}
	delete(l.open, birth)
	for _, kind := range []int{api.KCommit, api.KAbort, api.KEnd} {
		l.appends(kind, 0)
	}
}

// some picks one of the open, by its place among the births; 0, if none is open.
func (l *log) some(r *rand.Rand) int {
	for birth := range l.used + 1 {
		if _, there := l.open[birth]; there && r.Intn(3) == 0 {
			return birth
		}
	}
	return 0
}

// step does something that a run does.
func (l *log) step(r *rand.Rand) {
	l.t.Helper()
	birth := l.some(r)
	switch k := r.Intn(12); {
	case birth == 0 || k == 0:
		l.begin()
	case k < 8:
		l.update(birth, 1+r.Intn(40))
	case k < 10 && len(l.open[birth]) > 0:
		l.undo(birth)
	case k == 11 && r.Intn(4) == 0:
		l.ends(birth)
	}
}

// P17.6: where room is asked for ahead of each begin and each update, what is kept always suffices, up to the last rollback.
func TestWhatIsKeptSuffices(t *testing.T) {
	for seed := range int64(300) {
		r := rand.New(rand.NewSource(seed))
		area := 33 + r.Intn(1500)
		l := &log{t: t, r: room.New(area), area: area, open: map[int][]int{}}
		for range 150 {
			l.step(r)
		}
		for birth := range l.used + 1 {
			if _, there := l.open[birth]; !there {
				continue
			}
			for len(l.open[birth]) > 0 {
				l.undo(birth)
			}
			l.ends(birth)
		}
		if l.r.Kept() != 0 {
			t.Fatalf("seed %d: Kept() at the end: %d", seed, l.r.Kept())
		}
	}
}

// P17.6: at each fill of a log the four sentences hold, each by itself.
func TestWhatFollows(t *testing.T) {
	const area = 700
	for used := range area + 2 {
		for _, n := range []int{1, 9, 16, 128} {
			a := begin(t, area, txn{birth: 1, updates: []int{16}})
			if a.fits(used, room.Frame(api.KBegin, 0, 0), 99) && (a.begin(2) != 0 || !a.r.Fits(used+34, 0, 0)) {
				t.Errorf("Begin, used %d", used)
			}
			b := begin(t, area, txn{birth: 1, updates: []int{16}})
			if b.fits(used, room.Frame(api.KUpdate, n, 0), room.Frame(api.KUndo, n, 0)) && (b.update(1, n) != 0 || !b.r.Fits(used+38+2*n, 0, 0)) {
				t.Errorf("Update of %d, used %d", n, used)
			}
			c := begin(t, area, txn{birth: 1, updates: []int{n, 16}})
			if c.fits(used, 0, 0) && (c.undone(1, n) != 0 || !c.r.Fits(used+46+n, 0, 0)) {
				t.Errorf("Undone of %d, used %d", n, used)
			}
			d := begin(t, area, txn{birth: 1, updates: []int{n}})
			if d.fits(used, 0, 0) && (d.drop(1) != 0 || !d.r.Fits(used+99, 0, 0)) {
				t.Errorf("Drop, used %d", used)
			}
		}
	}
}
