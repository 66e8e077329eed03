package lock_test

import (
	"slices"
	"testing"

	"tidemark/api"
	"tidemark/lock"
)

// full is held whole, by three births that stand mixed.
var full = model{7, 8, 7, 9, 9, 8, 8, 7, 7, 9, 8, 7, 9, 9, 8, 7}

// some has pages that are held and pages that are not; both ends are held.
var some = model{0: mostBirth, 1: 7, 3: 7, 4: 1, 7: 8, 8: 7, 12: 8, 15: mostBirth}

// P15.1.
func TestNew(t *testing.T) {
	w := begin(t)
	w.is(append(births(), noBirths()...)...)
	for page := range pages {
		w.give(page)
	}
	for _, birth := range births() {
		w.drop(birth)
	}
	w.is(births()...)
}

// P15.2 to P15.5, the chapter's first example, told without the model.
func TestFirstExample(t *testing.T) {
	l := lock.New()
	takes := func(page, birth int, want api.Errno) {
		t.Helper()
		if e := l.Take(page, birth); e != want {
			t.Errorf("Take(%d, %d): %d, want %d", page, birth, e, want)
		}
	}
	tells := func(what string, all []int, want ...int) {
		t.Helper()
		if !slices.Equal(all, want) {
			t.Errorf("%s: %v, want %v", what, all, want)
		}
	}
	takes(3, 7, api.OK)
	takes(3, 7, api.OK)
	takes(3, 8, api.ErrBusy)
	takes(1, 7, api.OK)
	tells("Held(7)", l.Held(7), 1, 3)
	for _, c := range [][2]int{{3, 7}, {0, 0}, {-1, 0}, {99, 0}} {
		if b := l.Holder(c[0]); b != c[1] {
			t.Errorf("Holder(%d): %d, want %d", c[0], b, c[1])
		}
	}
	if !l.Give(3) || l.Give(3) {
		t.Error("Give(3): want true, then false")
	}
	takes(3, 8, api.OK)
	tells("Drop(7)", l.Drop(7), 1)
	tells("Held(7)", l.Held(7))
	tells("Drop(9)", l.Drop(9))
	tells("Held(8)", l.Held(8), 3)
}

// P15.2, the chapter's second example, told without the model.
func TestSecondExample(t *testing.T) {
	l := lock.New()
	for _, c := range []struct {
		page, birth int
		want        api.Errno
	}{
		{16, 0, api.ErrPlace}, {-1, 7, api.ErrPlace},
		{0, 0, api.ErrRange}, {0, -1, api.ErrRange}, {0, 1<<60 + 1, api.ErrRange},
		{0, 1 << 60, api.OK},
	} {
		if e := l.Take(c.page, c.birth); e != c.want {
			t.Errorf("Take(%d, %d): %d, want %d", c.page, c.birth, e, c.want)
		}
	}
}

// P15.2: each page may be held by each birth, once and again, and by no other beside it.
func TestTake(t *testing.T) {
	for page := range pages {
		for _, birth := range births() {
			w := begin(t)
			w.take(page, birth)
			w.is(births()...)
			w.take(page, birth)
			for _, other := range births() {
				w.take(page, other)
			}
			w.is(births()...)
		}
	}
}

// P15.2: with an error nothing has changed; a wrong page goes ahead of a wrong birth, and that ahead of a page that is held.
func TestTakeRefused(t *testing.T) {
	for _, m := range []model{{}, some, full} {
		w := holding(t, m)
		for _, page := range noPages() {
			for _, birth := range append(noBirths(), births()...) {
				w.take(page, birth)
			}
		}
		for page := range pages {
			for _, birth := range noBirths() {
				w.take(page, birth)
			}
			if m[page] != 0 {
				w.take(page, m[page]+1)
				w.take(page, m[page]-1)
			}
		}
		if w.m != m {
			t.Fatal("the model took what must be refused")
		}
		w.is(append(births(), noBirths()...)...)
	}
}

// P15.3: a page goes, whoever holds it, and no other goes with it; then it may be taken by anyone.
func TestGive(t *testing.T) {
	for _, m := range []model{some, full} {
		for page := range pages {
			w := holding(t, m)
			w.give(page)
			w.is(births()...)
			w.give(page)
			w.is(births()...)
			w.take(page, 2)
			w.is(births()...)
		}
	}
}

// P15.3: where there is no page, none goes.
func TestGiveNoPage(t *testing.T) {
	w := holding(t, full)
	for _, page := range noPages() {
		w.give(page)
	}
	w.is(births()...)
}

// P15.3: a page that was taken again and again goes at once.
func TestGiveOnceForAll(t *testing.T) {
	w := begin(t)
	for range 5 {
		w.take(6, 7)
	}
	w.give(6)
	w.give(6)
	w.is(births()...)
}

// P15.4: all pages of a birth go, and no other.
func TestDrop(t *testing.T) {
	for _, m := range []model{{}, some, full} {
		for _, birth := range append(births(), 9) {
			w := holding(t, m)
			w.drop(birth)
			w.is(births()...)
			w.drop(birth)
			w.is(births()...)
			for page := range pages {
				w.take(page, 2)
			}
			w.is(births()...)
		}
	}
}

// P15.4: what is no birth holds nothing, not even the pages that nobody holds.
func TestDropNoBirth(t *testing.T) {
	for _, m := range []model{{}, some, full} {
		w := holding(t, m)
		for _, birth := range noBirths() {
			w.drop(birth)
		}
		w.is(append(births(), noBirths()...)...)
	}
}

// P15.4: one birth may hold all pages, and lets them all go.
func TestDropAll(t *testing.T) {
	for _, birth := range births() {
		w := begin(t)
		for page := range pages {
			w.take(page, birth)
		}
		w.is(births()...)
		w.drop(birth)
		w.is(births()...)
	}
}

// P15.5: where there is no page, nobody holds it.
func TestHolderNoPage(t *testing.T) {
	l := holding(t, full).l
	for _, page := range noPages() {
		if b := l.Holder(page); b != 0 {
			t.Errorf("Holder(%d): %d, want 0", page, b)
		}
	}
}

// P15.5: asking changes nothing, however often, and whatever is asked for.
func TestAskingChangesNothing(t *testing.T) {
	for _, m := range []model{{}, some, full} {
		w := holding(t, m)
		for range 3 {
			for _, page := range noPages() {
				w.l.Holder(page)
			}
			w.is(append(births(), noBirths()...)...)
		}
		for page := range pages {
			w.give(page)
		}
	}
}

// P15.7: what is done to one is not seen in another, not even if the other was made behind it.
func TestTwoShareNothing(t *testing.T) {
	a, b := begin(t), begin(t)
	a.take(3, 7)
	b.take(3, 8)
	b.take(4, 7)
	c := begin(t)
	c.is(births()...)
	a.give(3)
	b.drop(7)
	c.take(3, 9)
	for _, w := range []*world{a, b, c} {
		w.is(append(births(), 9)...)
	}
}

// scribble writes over a list and its spare room.
func scribble(all []int) {
	all = all[:cap(all)]
	for i := range all {
		all[i] = -5
	}
}

// P15.7: what is told is new memory, its spare room too.
func TestNewMemory(t *testing.T) {
	for _, m := range []model{some, full} {
		w := holding(t, m)
		for _, birth := range []int{7, 8, 9, mostBirth} {
			first := w.l.Held(birth)
			second := w.l.Held(birth)
			scribble(first)
			if !slices.Equal(second, m.held(birth)) {
				t.Errorf("Held(%d): %v behind a change of what was told ahead of it", birth, second)
			}
			scribble(second)
			w.is(births()...)
		}
		for _, birth := range []int{7, 8, 9, mostBirth} {
			held := w.l.Held(birth)
			want := w.m.drop(birth)
			dropped := w.l.Drop(birth)
			scribble(held)
			if !slices.Equal(dropped, want) {
				t.Errorf("Drop(%d): %v behind a change of what Held told, want %v", birth, dropped, want)
			}
			scribble(dropped)
			w.is(births()...)
		}
	}
}
