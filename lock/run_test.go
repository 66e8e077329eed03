package lock_test

import (
	"math/rand"
	"slices"
	"testing"
)

// few are the births of the runs: so few that they meet at the pages.
var few = []int{1, 7, 8, mostBirth}

// follows looks at what follows from the promises, by what is told alone: P15.6.
func follows(w *world) {
	w.t.Helper()
	count := 0
	for _, birth := range few {
		held := w.l.Held(birth)
		count += len(held)
		if !slices.IsSorted(held) {
			w.t.Errorf("Held(%d): %v does not rise", birth, held)
		}
		for page := range pages {
			if slices.Contains(held, page) != (w.l.Holder(page) == birth) {
				w.t.Errorf("Held(%d): %v, but Holder(%d): %d", birth, held, page, w.l.Holder(page))
			}
		}
	}
	for page := range pages {
		if w.l.Holder(page) != 0 {
			count--
		}
	}
	if count != 0 {
		w.t.Errorf("%d pages are told more often than they are held", count)
	}
}

// P15.6: seeded runs of all calls, right and wrong, against the model.
func TestRuns(t *testing.T) {
	for seed := range int64(60) {
		r := rand.New(rand.NewSource(seed))
		w := begin(t)
		for range 400 {
			page, birth := r.Intn(pages), few[r.Intn(len(few))]
			switch r.Intn(40) {
			case 0:
				page = noPages()[r.Intn(len(noPages()))]
			case 1:
				birth = noBirths()[r.Intn(len(noBirths()))]
			}
			switch n := r.Intn(20); {
			case n < 13:
				w.take(page, birth)
			case n < 18:
				w.give(page)
			default:
				w.drop(birth)
			}
			w.is(few...)
			follows(w)
		}
		if t.Failed() {
			t.Fatalf("seed %d", seed)
		}
	}
}

// step is one call of a short run.
func (w *world) step(n int) {
	w.t.Helper()
	page, birth := n%2*15, 7+n/2%2
	switch n / 4 {
	case 0:
		w.take(page, birth)
	case 1:
		w.give(page)
	default:
		w.drop(birth)
	}
}

// P15.6: all short runs over two pages and two births, in each order.
func TestAllShortRuns(t *testing.T) {
	const steps, long = 12, 4
	for n := range steps * steps * steps * steps {
		w := begin(t)
		for range long {
			w.step(n % steps)
			n /= steps
			w.is(7, 8)
		}
	}
}

// P15.6: in which order the births ask for their pages, and in which they are asked after, is not to be seen.
func TestOrderPlaysNoPart(t *testing.T) {
	for seed := range int64(200) {
		r := rand.New(rand.NewSource(seed))
		w := begin(t)
		for _, page := range r.Perm(pages) {
			w.take(page, full[page])
		}
		w.is(9, 8, 7)
		for _, i := range r.Perm(3) {
			w.drop(7 + i)
			w.is(7, 8, 9)
		}
	}
}

// P15.6: a held page stays held by the same birth, whatever others ask, until it is let go.
func TestHeldStays(t *testing.T) {
	for page := range pages {
		r := rand.New(rand.NewSource(int64(page)))
		w := begin(t)
		w.take(page, 7)
		for range 300 {
			other, birth := (page+1+r.Intn(pages-1))%pages, 8+r.Intn(3)
			w.take(page, birth)
			w.take(other, birth)
			if r.Intn(3) == 0 {
				w.give(other)
			}
			if r.Intn(5) == 0 {
				w.drop(birth)
			}
			if b := w.l.Holder(page); b != 7 {
				t.Fatalf("Holder(%d): %d, want 7", page, b)
			}
		}
		w.is(7, 8, 9, 10)
		w.give(page)
		w.take(page, 8)
		w.is(7, 8, 9, 10)
	}
}
