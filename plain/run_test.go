package plain_test

import (
	"math"
	"math/rand"
	"slices"
	"testing"

	"tidemark/api"
	"tidemark/plain"
)

// The kinds of calls of a run.
const (
	cBegin = iota
	cGet
	cPut
	cDelete
	cCommit
	cAbort
	cCheckpoint
	cRenew
)

// call is one of a run.
type call struct {
	kind, id, key int // key: also how many pages are dirty
	value         uint64
}

// answer is all that a call can answer.
type answer struct {
	value uint64
	there bool
	e     api.Errno
}

// do makes a call.
func do(s *plain.State, c call) answer {
	switch c.kind {
	case cBegin:
		return answer{e: s.Begin(c.id)}
	case cGet:
		v, there, e := s.Get(c.id, c.key)
		return answer{v, there, e}
	case cPut:
		return answer{e: s.Put(c.id, c.key, c.value)}
	case cDelete:
		there, e := s.Delete(c.id, c.key)
		return answer{there: there, e: e}
	case cCommit:
		return answer{e: s.Commit(c.id)}
	case cAbort:
		return answer{e: s.Abort(c.id)}
	case cCheckpoint:
		return answer{e: s.Checkpoint(c.key)}
	}
	return answer{e: s.Renew()}
}

// do makes a call of the state and of the model.
func (w *world) do(c call) api.Errno {
	w.t.Helper()
	switch c.kind {
	case cBegin:
		return w.begin(c.id)
	case cGet:
		_, _, e := w.get(c.id, c.key)
		return e
	case cPut:
		return w.put(c.id, c.key, c.value)
	case cDelete:
		_, e := w.delete(c.id, c.key)
		return e
	case cCommit:
		return w.commit(c.id)
	case cAbort:
		return w.abort(c.id)
	case cCheckpoint:
		return w.checkpoint(c.key)
	}
	return w.renew()
}

// told is all that a state tells.
type told struct {
	used, kept int
	ids        []int
	done       [][]plain.Change
	entries    []api.Entry
	e          api.Errno
}

func tell(s *plain.State) told {
	var x told
	x.used, x.kept = s.Used()
	x.ids, x.done = s.Ids(), s.Done()
	x.entries, x.e = s.Entries()
	return x
}

func (x told) equal(y told) bool {
	return x.used == y.used && x.kept == y.kept && x.e == y.e && slices.Equal(x.ids, y.ids) && slices.Equal(x.entries, y.entries) && slices.EqualFunc(x.done, y.done, slices.Equal[[]plain.Change])
}

// follows looks at what follows from the promises, by what is told alone: P18.9.
func follows(w *world) {
	w.t.Helper()
	if a, b := w.s.Used(); a+b > w.m.c.Shape.Log || a < 0 || b < 99*len(w.s.Ids()) {
		w.t.Errorf("Used(): %d, %d of %d, %d open", a, b, w.m.c.Shape.Log, len(w.s.Ids()))
	}
	if l, e := w.s.Entries(); e == 0 && !slices.Equal(l, plain.Fold(w.s.Done()...)) {
		w.t.Errorf("Entries(): %v, Fold(Done()): %v", l, plain.Fold(w.s.Done()...))
	}
}

// someConfig gives one that is so small that things meet.
func someConfig(r *rand.Rand) api.Config {
	c := config(1+r.Intn(4), 1+r.Intn(3), leastLog+r.Intn(1500), 2+r.Intn(15), 1+r.Intn(5), 1+r.Intn(20))
	if r.Intn(5) == 0 {
		c = config(1+r.Intn(16), 1+r.Intn(8), leastLog+r.Intn(mostLog-leastLog+1), 2+r.Intn(15), 1+r.Intn(8), 1+r.Intn(mostKeys))
	}
	return c
}

// someCall gives one of few numbers and keys, now and then a wrong one.
func someCall(r *rand.Rand, c api.Config) call {
	ids := []int{1, 2, 3, 5, 33, 64}
	x := call{id: ids[r.Intn(len(ids))], key: r.Intn(min(c.Keys, 40)), value: values()[r.Intn(len(values()))]}
	if r.Intn(60) == 0 {
		x.id = noIds()[r.Intn(len(noIds()))]
	}
	if r.Intn(60) == 0 {
		x.key = noKeys(c.Keys)[r.Intn(len(noKeys(c.Keys)))]
	}
	switch n := r.Intn(40); {
	case n < 6:
		x.kind = cBegin
	case n < 12:
		x.kind = cGet
	case n < 25:
		x.kind = cPut
	case n < 31:
		x.kind = cDelete
	case n < 34:
		x.kind = cCommit
	case n < 36:
		x.kind = cAbort
	case n < 37:
		x.kind = cCheckpoint
	default:
		x.kind = cRenew
	}
	return x
}

// P18.2 to P18.6, P18.9: seeded runs of all calls, right and wrong, against the model.
func TestRuns(t *testing.T) {
	met := map[api.Errno]int{}
	for seed := range int64(150) {
		r := rand.New(rand.NewSource(seed))
		w := begin(t, someConfig(r))
		for range 250 {
			met[w.do(someCall(r, w.m.c))]++
			w.is()
			follows(w)
		}
		for _, id := range w.s.Ids() {
			if e := w.do(call{kind: cCommit + r.Intn(2), id: id}); e != 0 {
				t.Errorf("%d is not ended: %d", id, e)
			}
		}
		w.is()
		follows(w)
		if t.Failed() {
			t.Fatalf("seed %d", seed)
		}
	}
	for _, e := range []api.Errno{0, 42, 50, 150, 160, 161, 170, 210} {
		if met[e] < 20 {
			t.Errorf("the runs met %d only %d times", e, met[e])
		}
	}
}

// shortCalls are those of the short runs: two transactions, two pages, a page of two keys.
func shortCalls() []call {
	var all []call
	for id := 1; id <= 2; id++ {
		all = append(all, call{kind: cBegin, id: id}, call{kind: cCommit, id: id}, call{kind: cAbort, id: id}, call{kind: cDelete, id: id, key: 2})
		for _, key := range []int{0, 1, 2} {
			all = append(all, call{kind: cGet, id: id, key: key}, call{kind: cPut, id: id, key: key, value: uint64(id)})
		}
	}
	return append(all, call{kind: cRenew}, call{kind: cCheckpoint, key: 1})
}

// P18.9: all short runs, in each order, behind one or two that have begun.
func TestAllShortRuns(t *testing.T) {
	all := shortCalls()
	for n := range 2 * len(all) * len(all) * len(all) {
		w := begin(t, config(2, 1, leastLog, 2, 2, 3), 1)
		if n%2 == 1 {
			w.begin(2)
		}
		for rest, i := n/2, 0; i < 3; i++ {
			w.do(all[rest%len(all)])
			rest /= len(all)
		}
		w.is()
		follows(w)
		if t.Failed() {
			t.Fatalf("run %d", n)
		}
	}
}

// run makes a seeded list of calls.
func run(seed int64, long int) (api.Config, []call) {
	r := rand.New(rand.NewSource(seed))
	c := someConfig(r)
	var all []call
	for range long {
		all = append(all, someCall(r, c))
	}
	return c, all
}

// P18.9: a refused call changes nothing: with the refused ones left out, all other answers stay, and all that is told.
func TestRefusedChangesNothing(t *testing.T) {
	for seed := range int64(150) {
		c, all := run(seed, 300)
		s, _ := plain.New(c)
		twin, _ := plain.New(c)
		for i, x := range all {
			before := tell(s)
			a := do(s, x)
			if aborts := a.e == 170 && (x.kind == cPut || x.kind == cDelete); a.e != 0 && !aborts {
				if a != (answer{e: a.e}) {
					t.Errorf("seed %d, call %d: %v", seed, i, a)
				}
				if !tell(s).equal(before) {
					t.Fatalf("seed %d, call %d: %v, refused by %d, has changed something", seed, i, x, a.e)
				}
				continue
			}
			if b := do(twin, x); a != b {
				t.Fatalf("seed %d, call %d: %v: %v, without the refused ones: %v", seed, i, x, a, b)
			}
			if !tell(s).equal(tell(twin)) {
				t.Fatalf("seed %d, call %d: %v: %v, without the refused ones: %v", seed, i, x, tell(s), tell(twin))
			}
		}
	}
}

// P18.9: an aborted transaction leaves no trace but in Used.
func TestAbortedLeavesNoTrace(t *testing.T) {
	for seed := range int64(150) {
		r := rand.New(rand.NewSource(seed))
		c := config(1+r.Intn(3), 1+r.Intn(3), mostLog, 2, 1, 12)
		s, _ := plain.New(c)
		twin, _ := plain.New(c)
		for id := 1; id <= 20; id++ {
			states := []*plain.State{s, twin}
			aborts := r.Intn(2) == 0
			if aborts {
				states = states[:1]
			}
			calls := []call{{kind: cBegin, id: id}}
			for range r.Intn(10) {
				calls = append(calls, call{kind: cGet + r.Intn(3), id: id, key: r.Intn(12), value: uint64(r.Intn(4))})
			}
			end := call{kind: cCommit, id: id}
			if aborts {
				end.kind = cAbort
			}
			for _, x := range append(calls, end) {
				a := do(s, x)
				if len(states) == 2 && do(twin, x) != a {
					t.Fatalf("seed %d: %v: another answer without the aborted ones", seed, x)
				}
			}
			a, b := tell(s), tell(twin)
			a.used, b.used = 0, 0
			if !a.equal(b) {
				t.Fatalf("seed %d: %v, without the aborted ones: %v", seed, a, b)
			}
		}
	}
}

// P18.9: what one does is not seen by another, and plays no part in its answers: whatever a neighbour does to its own pages, the other's answers stay.
func TestApart(t *testing.T) {
	for seed := range int64(150) {
		r := rand.New(rand.NewSource(seed))
		c := config(4, 2, mostLog, 2, 2, 40)
		s, _ := plain.New(c)
		alone, _ := plain.New(c)
		for _, x := range []call{{kind: cBegin, id: 1}, {kind: cPut, id: 1, key: 4, value: 9}, {kind: cPut, id: 1, key: 5, value: 9}, {kind: cCommit, id: 1}, {kind: cBegin, id: 1}, {kind: cBegin, id: 2}} {
			do(s, x)
			do(alone, x)
		}
		for range 60 {
			x := call{kind: cGet + r.Intn(3), id: 1 + r.Intn(2), value: uint64(r.Intn(5))}
			x.key = 2*r.Intn(20) + x.id - 1 // each has pages of its own
			if x.id == 2 {
				do(s, x)
			} else if a, b := do(s, x), do(alone, x); a != b {
				t.Fatalf("seed %d: %v: %v beside a neighbour, %v without one's doings", seed, x, a, b)
			}
		}
	}
}

// P18.9: Frames plays no part in any answer.
func TestFramesPlayNoPart(t *testing.T) {
	for seed := range int64(40) {
		c, all := run(seed, 200)
		few, many := c, c
		few.Frames, many.Frames = 2, mostFrames
		s, _ := plain.New(few)
		twin, _ := plain.New(many)
		for _, x := range all {
			if a, b := do(s, x), do(twin, x); a != b || !tell(s).equal(tell(twin)) {
				t.Fatalf("seed %d: %v: %v with few frames, %v with many", seed, x, a, b)
			}
		}
	}
}

// P18.9: two states share nothing, and a run answers the same each time.
func TestStatesShareNothing(t *testing.T) {
	for seed := range int64(40) {
		c, all := run(seed, 200)
		_, others := run(seed+1000, 200)
		s, _ := plain.New(c)
		twin, _ := plain.New(c)
		other, _ := plain.New(c)
		for i, x := range all {
			a := do(s, x)
			do(other, others[i])
			if b := do(twin, x); a != b || !tell(s).equal(tell(twin)) {
				t.Fatalf("seed %d: %v: %v, %v", seed, x, a, b)
			}
		}
	}
}

// P18.7: seeded lists, against the model's way.
func TestFoldRuns(t *testing.T) {
	keys := []int{0, 1, 2, -1, -2, 1 << 20, 1 << 40, -1 << 40, math.MaxInt, math.MinInt}
	for seed := range int64(400) {
		r := rand.New(rand.NewSource(seed))
		lists := make([][]plain.Change, r.Intn(6))
		var flat []plain.Change
		for i := range lists {
			for range r.Intn(8) {
				x := plain.Change{Key: keys[r.Intn(len(keys))], Value: uint64(r.Intn(3)), Gone: r.Intn(3) == 0}
				lists[i] = append(lists[i], x)
				flat = append(flat, x)
			}
		}
		var want []api.Entry
		slices.Sort(keys)
		for _, key := range keys {
			for i := len(flat) - 1; i >= 0; i-- {
				if flat[i].Key == key {
					if !flat[i].Gone {
						want = append(want, pair(key, flat[i].Value))
					}
					break
				}
			}
		}
		if l := plain.Fold(lists...); !slices.Equal(l, want) {
			t.Errorf("seed %d: Fold(%v): %v, want %v", seed, lists, l, want)
		}
		if l := plain.Fold(flat); !slices.Equal(l, want) {
			t.Errorf("seed %d: Fold(%v): %v, want %v", seed, flat, l, want)
		}
	}
}

// P18.8: what is answered may be changed, its spare room too, and the state tells the same.
func TestNewMemory(t *testing.T) {
	w := begin(t, wide(), 1, 2)
	w.put(1, 8, 5)
	w.put(1, 9, 6)
	w.commit(2)
	w.commit(1)
	w.begin(5)
	w.put(5, 3, 1)
	w.commit(5)
	for range 3 {
		l, _ := w.s.Entries()
		scribble(l, pair(77, 77))
		done := w.s.Done()
		for i, x := range done {
			scribble(x, gone(66))
			for j, y := range done {
				if j != i && slices.Contains(y[:cap(y)], gone(66)) {
					t.Errorf("the lists %d and %d of Done() share memory", i, j)
				}
			}
			scribble(x, gone(55))
		}
		scribble(done, []plain.Change{put(1, 1)})
		w.begin(3)
		w.begin(4)
		scribble(w.s.Ids(), 9)
		w.put(3, 8, 7)
		w.is()
		w.commit(3)
		w.abort(4)
		w.is()
	}
}

// scribble fills a list and its spare room.
func scribble[T any](l []T, x T) {
	l = l[:cap(l)]
	for i := range l {
		l[i] = x
	}
}

// P18.8: what Fold is given stays, its spare room too, and its answer is another memory.
func TestFoldLeavesItsLists(t *testing.T) {
	back := []plain.Change{put(3, 1), gone(3), put(2, 9), put(1, 4), put(50, 50), put(51, 51)}
	was := slices.Clone(back)
	lists := [][]plain.Change{back[:2], back[2:4], nil}
	l := plain.Fold(lists...)
	if !slices.Equal(l, []api.Entry{pair(1, 4), pair(2, 9)}) {
		t.Errorf("Fold: %v", l)
	}
	scribble(l, pair(8, 8))
	if !slices.Equal(back, was) || len(lists) != 3 || len(lists[0]) != 2 || len(lists[1]) != 2 || lists[2] != nil {
		t.Errorf("Fold has changed its lists: %v", back)
	}
	if l := plain.Fold(lists...); !slices.Equal(l, []api.Entry{pair(1, 4), pair(2, 9)}) {
		t.Errorf("Fold, again: %v", l)
	}
}
