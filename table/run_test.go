package table_test

import (
	"math/rand"
	"slices"
	"testing"

	"tidemark/api"
)

// few are the births and ids of the runs: so few that they meet.
var (
	fewBirths = []int{1, 2, 5, 64, 1<<32 + 5, mostLsn - 1, mostLsn}
	fewIds    = []int{1, 2, 3, 5, 63, 64}
)

// follows looks at what follows from the promises, by what is told alone: P16.7.
func follows(w *world) {
	w.t.Helper()
	all := w.x.Rows()
	if len(all) != w.x.Count() || len(all) > w.m.most {
		w.t.Errorf("%d rows, Count(): %d, most: %d", len(all), w.x.Count(), w.m.most)
	}
	for i, r := range all {
		if i > 0 && all[i-1].Birth >= r.Birth {
			w.t.Errorf("Rows(): %v does not rise", all)
		}
		if slices.ContainsFunc(all[:i], func(o api.Row) bool { return o.Id == r.Id }) {
			w.t.Errorf("Rows(): %v has an id twice", all)
		}
		byBirth, ok := w.x.Get(r.Birth)
		byId, there := w.x.ById(r.Id)
		if byBirth != r || byId != r || !ok || !there {
			w.t.Errorf("Get(%d): %v, ById(%d): %v, want %v", r.Birth, byBirth, r.Id, byId, r)
		}
	}
}

// someRow gives a row of few births and ids, mostly a right one.
func someRow(r *rand.Rand) api.Row {
	x := fresh(fewBirths[r.Intn(len(fewBirths))], fewIds[r.Intn(len(fewIds))])
	x.State = 1 + r.Intn(2)
	x.Last = min(x.Birth+r.Intn(4), mostLsn)
	if x.Last > x.Birth && r.Intn(2) == 0 {
		x.Next = x.Birth + 1 + r.Intn(x.Last-x.Birth)
	}
	if r.Intn(30) == 0 {
		x = wrongRows()[r.Intn(len(wrongRows()))]
	}
	return x
}

// there gives, where it can, a row with the birth and id of one that is there.
func (w *world) there(r *rand.Rand) api.Row {
	x := someRow(r)
	if n := len(w.m.rows); n > 0 {
		old := w.m.rows[r.Intn(n)]
		x.Birth, x.Id, x.Next = old.Birth, old.Id, 0
		x.Last = min(old.Last+r.Intn(3), mostLsn)
	}
	return x
}

// P16.7: seeded runs of all calls, right and wrong, against the model.
func TestRuns(t *testing.T) {
	for seed := range int64(80) {
		r := rand.New(rand.NewSource(seed))
		w := begin(t, 1+r.Intn(mostRows))
		for range 300 {
			switch n := r.Intn(20); {
			case n < 8:
				w.put(someRow(r))
			case n < 10:
				w.set(someRow(r))
			case n < 14:
				w.set(w.there(r))
			case n < 16:
				w.drop(w.there(r).Birth)
			case n < 19:
				w.drop(fewBirths[r.Intn(len(fewBirths))])
			default:
				w.drop(strange()[r.Intn(len(strange()))])
			}
			w.is(fewBirths...)
			follows(w)
		}
		if t.Failed() {
			t.Fatalf("seed %d", seed)
		}
	}
}

// step is one call of a short run, over three births and two ids.
func (w *world) step(n int) {
	w.t.Helper()
	birth, id := 5+n%3, 6+n/3%2
	switch n / 6 {
	case 0:
		w.put(fresh(birth, id))
	case 1:
		w.set(row(birth, id, 2, 9, 9))
	default:
		w.drop(birth)
	}
}

// P16.7: all short runs, in each order, in tables for one row and for two.
func TestAllShortRuns(t *testing.T) {
	const steps, long = 15, 4
	for n := range 2 * steps * steps * steps * steps {
		w := begin(t, 1+n%2)
		n /= 2
		for range long {
			w.step(n % steps)
			n /= steps
		}
		w.is(5, 6, 7, 8)
		follows(w)
	}
}

// P16.7: in which order rows are put and dropped is not to be seen.
func TestOrderPlaysNoPart(t *testing.T) {
	rows := []api.Row{fresh(5, 3), row(1, 64, 2, 9, 7), fresh(mostLsn, 1), row(2, 2, 1, 40, 3), fresh(64, 5), row(63, 63, 2, 64, 0), fresh(3, 4), fresh(1<<32+5, 6)}
	for seed := range int64(300) {
		r := rand.New(rand.NewSource(seed))
		w := begin(t, mostRows)
		for _, i := range r.Perm(len(rows)) {
			w.put(rows[i])
		}
		sorted := []api.Row{rows[1], rows[3], rows[6], rows[0], rows[5], rows[4], rows[7], rows[2]}
		if all := w.x.Rows(); !slices.Equal(all, sorted) {
			t.Fatalf("Rows(): %v, want %v", all, sorted)
		}
		w.is()
		for _, i := range r.Perm(len(rows)) {
			w.drop(rows[i].Birth)
			w.is()
		}
	}
}

// P16.7: a row stays as it was put or set last, whatever is done to others, until it is dropped.
func TestRowStays(t *testing.T) {
	for _, stays := range []api.Row{row(5, 3, 2, 9, 7), fresh(1, 1), fresh(mostLsn, 64), row(1<<32+5, 64, 1, 1<<33, 0)} {
		r := rand.New(rand.NewSource(int64(stays.Birth)))
		w := begin(t, 4, fresh(stays.Birth, stays.Id))
		w.set(stays)
		for range 500 {
			x := someRow(r)
			w.put(x)
			if x.Birth != stays.Birth {
				w.set(x)
			}
			if y := someRow(r); y.Birth != stays.Birth && r.Intn(2) == 0 {
				w.drop(y.Birth)
			}
			if is, ok := w.x.Get(stays.Birth); is != stays || !ok {
				t.Fatalf("Get(%d): %v, %v, want %v", stays.Birth, is, ok, stays)
			}
		}
		w.is()
		w.drop(stays.Birth)
		w.is()
	}
}

// P16.7: behind a Drop its birth and its id may be put again, together or apart.
func TestAgainBehindDrop(t *testing.T) {
	for _, again := range [][]api.Row{{fresh(5, 3)}, {fresh(5, 4)}, {fresh(6, 3)}, {fresh(5, 4), fresh(6, 3)}, {fresh(4, 3), fresh(5, 2)}} {
		w := begin(t, 3, row(5, 3, 2, 9, 7), fresh(7, 7))
		w.drop(5)
		for _, r := range again {
			if e := w.put(r); e != 0 {
				t.Errorf("the model: %d of %v", e, r)
			}
		}
		w.is()
		w.drop(5)
		w.is()
	}
}
