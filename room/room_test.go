package room_test

import (
	"math"
	"testing"

	"tidemark/api"
	"tidemark/room"
)

// areas has ordinary ones, none, those below 0, and the ends of int.
func areas() []int {
	return []int{1024, 65536, 100, 99, 98, 1, 0, -1, -5, 1 << 32, 1 << 60, math.MaxInt, math.MaxInt - 1, math.MinInt, math.MinInt + 1}
}

// P17.2: any area; no transaction is there.
func TestNew(t *testing.T) {
	for _, area := range areas() {
		w := begin(t, area)
		w.is(births()...)
		for _, birth := range births() {
			for _, e := range []api.Errno{w.update(birth, 16), w.undone(birth, 16), w.drop(birth)} {
				if e != 160 {
					t.Errorf("the model: %d", e)
				}
			}
		}
		w.is(births()...)
	}
}

// P17.2 to P17.4, the chapter's second example, told without the model.
func TestSecondExample(t *testing.T) {
	r := room.New(1024)
	is := func(what string, n, want int) {
		t.Helper()
		if n != want {
			t.Errorf("%s: %d, want %d", what, n, want)
		}
	}
	answers := func(what string, e, want api.Errno) {
		t.Helper()
		is(what, int(e), int(want))
	}
	is("Kept()", r.Kept(), 0)
	answers("Begin(1)", r.Begin(1), api.OK)
	answers("Begin(1) again", r.Begin(1), api.ErrTxn)
	is("Of(1)", r.Of(1), 99)
	answers("Update(1, 16)", r.Update(1, 16), api.OK)
	is("Of(1) with an update", r.Of(1), 161)
	answers("Update(1, 0)", r.Update(1, 0), api.ErrRange)
	answers("Update(2, 1)", r.Update(2, 1), api.ErrTxn)
	answers("Undone(1, 15)", r.Undone(1, 15), api.ErrRange)
	answers("Undone(1, 16)", r.Undone(1, 16), api.OK)
	is("Of(1) behind Undone", r.Of(1), 99)
	answers("Drop(1)", r.Drop(1), api.OK)
	is("Of(1) behind Drop", r.Of(1), 0)
	answers("Drop(1) again", r.Drop(1), api.ErrTxn)
}

// P17.5, the chapter's third example, told without the model.
func TestThirdExample(t *testing.T) {
	r := room.New(1024)
	used := 0
	for birth := range 7 {
		if !r.Fits(used, 34, 99) {
			t.Errorf("Fits(%d, 34, 99) behind %d begins: false", used, birth)
		}
		r.Begin(birth)
		used += 34
	}
	if used != 238 || r.Kept() != 693 || r.Fits(238, 34, 99) {
		t.Errorf("used %d, Kept(): %d, Fits(238, 34, 99): %v", used, r.Kept(), r.Fits(238, 34, 99))
	}
}

// P17.5, the chapter's fourth example, told without the model.
func TestFourthExample(t *testing.T) {
	for _, c := range []struct {
		area, used, more, keep int
		want                   bool
	}{
		{100, 100, 0, 0, true}, {100, 100, 1, 0, false}, {100, -1, 0, 0, false}, {100, math.MaxInt, math.MaxInt, 2, false},
		{-5, 0, 0, 0, false}, {math.MaxInt, math.MaxInt, 0, 0, true},
	} {
		if ok := room.New(c.area).Fits(c.used, c.more, c.keep); ok != c.want {
			t.Errorf("New(%d): Fits(%d, %d, %d): %v", c.area, c.used, c.more, c.keep, ok)
		}
	}
}

// P17.3: any int may be a birth, once; a refused Begin leaves what the transaction has.
func TestBegin(t *testing.T) {
	w := begin(t, 65536)
	for _, birth := range births() {
		if e := w.begin(birth); e != 0 {
			t.Errorf("the model: %d of %d", e, birth)
		}
		w.is(births()...)
		w.update(birth, 16)
		if e := w.begin(birth); e != 160 {
			t.Errorf("the model: %d of %d again", e, birth)
		}
		w.is(births()...)
	}
	for _, birth := range births() {
		w.begin(birth)
	}
	w.is(births()...)
}

// P17.3: each length that may be, by itself, twice, and beside others.
func TestUpdate(t *testing.T) {
	w := begin(t, 1<<30, txn{birth: 7}, txn{birth: -7, updates: []int{16}})
	for _, n := range lengths() {
		alone := begin(t, 1024, txn{birth: 7})
		for _, x := range []*world{alone, w, w} {
			if e := x.update(7, n); e != 0 {
				t.Errorf("the model: %d of %d", e, n)
			}
			x.is(7, -7, 8)
		}
	}
}

// P17.3: a length that may not be, and a birth that is not there, whose error comes first; nothing has changed.
func TestUpdateRefused(t *testing.T) {
	w := begin(t, 65536, txn{birth: 7}, txn{birth: 8, updates: []int{16, mostCount, 1}})
	for _, n := range noLengths() {
		for _, birth := range []int{7, 8} {
			if e := w.update(birth, n); e != 30 {
				t.Errorf("the model: %d of %d", e, n)
			}
		}
		w.is()
	}
	for _, n := range append(noLengths(), lengths()...) {
		for _, birth := range []int{9, 0, -7, 7 + 256, 7 + 1<<32, math.MinInt + 7} {
			if e := w.update(birth, n); e != 160 {
				t.Errorf("the model: %d of %d", e, birth)
			}
		}
		w.is(9, 0, -7)
	}
}

// P17.3: as often undone as updated, in any order, and not once more.
func TestUndone(t *testing.T) {
	w := begin(t, 1<<30, txn{birth: 7}, txn{birth: 8, updates: lengths()})
	for _, n := range lengths() {
		w.update(7, n)
		w.update(7, n)
	}
	w.is()
	for _, n := range append(lengths(), lengths()...) {
		if e := w.undone(7, n); e != 0 {
			t.Errorf("the model: %d of %d", e, n)
		}
		w.is()
	}
	for _, n := range lengths() {
		if e := w.undone(7, n); e != 30 {
			t.Errorf("the model: %d of %d once more", e, n)
		}
		w.is()
	}
	w.update(7, 16)
	w.undone(7, 16)
	w.is()
}

// P17.3: lengths that the transaction has no update of (though another may), and births that are not there, whose error comes first; nothing has changed.
func TestUndoneRefused(t *testing.T) {
	w := begin(t, 65536, txn{birth: 7}, txn{birth: 8, updates: []int{16, 16, 3}}, txn{birth: 9, updates: lengths()})
	for _, n := range append(noLengths(), 16, 3, 1) {
		if e := w.undone(7, n); e != 30 {
			t.Errorf("the model: %d of %d", e, n)
		}
	}
	for _, n := range append(noLengths(), 15, 17, 32, 35, 1, 4, 2, 16+46, mostCount) {
		if e := w.undone(8, n); e != 30 {
			t.Errorf("the model: %d of %d", e, n)
		}
		w.is()
	}
	for _, n := range append(noLengths(), 16, 3, 1) {
		for _, birth := range []int{10, 0, -8, 8 + 256, 8 + 1<<32, math.MinInt + 8} {
			if e := w.undone(birth, n); e != 160 {
				t.Errorf("the model: %d of %d", e, birth)
			}
		}
	}
	w.is(10, 0, -8)
}

// P17.3: all that it kept goes, and nothing of others; its birth may begin again, without updates.
func TestDrop(t *testing.T) {
	for _, birth := range births() {
		w := begin(t, 1<<30)
		for i, b := range births() {
			w.begin(b)
			for _, n := range lengths()[i%5:] {
				w.update(b, n)
			}
		}
		w.undone(birth, 16)
		w.drop(birth)
		w.is(births()...)
		for _, e := range []api.Errno{w.drop(birth), w.update(birth, 16), w.undone(birth, 17)} {
			if e != 160 {
				t.Errorf("the model: %d", e)
			}
		}
		w.is(births()...)
		w.begin(birth)
		if e := w.undone(birth, 17); e != 30 {
			t.Errorf("the model: %d", e)
		}
		w.is(births()...)
	}
}

// P17.4: the sum of very many, at the greatest lengths.
func TestKeptOfMany(t *testing.T) {
	const many, each = 2000, 40
	r := room.New(0)
	for birth := range many {
		r.Begin(birth)
		for range each {
			r.Update(birth, mostCount)
		}
	}
	keeps := 99 + each*(46+mostCount)
	if r.Of(0) != keeps || r.Of(many-1) != keeps || r.Kept() != many*keeps {
		t.Errorf("Of: %d, %d, Kept(): %d", r.Of(0), r.Of(many-1), r.Kept())
	}
	for birth := range many {
		r.Drop(birth)
	}
	if r.Kept() != 0 {
		t.Errorf("Kept() behind all drops: %d", r.Kept())
	}
}

// parts has numbers whose sums lie beside each area, or would wrap back to below it.
func parts() []int {
	return []int{0, 1, 2, 98, 99, 100, 101, 500, 863, 864, 1024, 1025, 1 << 32, 1 << 60, 1 << 62, math.MaxInt/3 + 1, math.MaxInt/2 + 1, math.MaxInt - 161, math.MaxInt - 160, math.MaxInt - 1, math.MaxInt, -1, -2, -99, -1024, math.MinInt, math.MinInt + 1}
}

// P17.5: the sum is meant exactly, whatever the four numbers are; below 0 is none of them.
func TestFits(t *testing.T) {
	for _, area := range append(areas(), 160, 161, 162, 163, 1<<62, math.MaxInt-161) {
		for _, open := range [][]txn{nil, {{birth: 1}}, {{birth: 1, updates: []int{16}}}, {{birth: 1, updates: []int{16}}, {birth: 2, updates: []int{mostCount}}}} {
			w := begin(t, area, open...)
			for _, used := range parts() {
				for _, more := range parts() {
					for _, keep := range parts() {
						w.fits(used, more, keep)
					}
				}
			}
			w.is(1, 2, 3)
		}
	}
}

// P17.5: a Room may keep more than its area has: then nothing fits, and all is told and counted as ever.
func TestMoreKeptThanThereIs(t *testing.T) {
	for _, area := range []int{math.MinInt, -1, 0, 98, 99, 100} {
		w := begin(t, area, txn{birth: 1, updates: []int{16, 17}})
		w.is(1, 2)
		if w.fits(0, 0, 0) {
			t.Errorf("the model of area %d", area)
		}
		w.undone(1, 17)
		w.update(1, mostCount)
		w.begin(2)
		w.is(1, 2)
		w.drop(1)
		w.is(1, 2)
	}
}

// P17.7: what is done to one Room is not seen in another, not even if it was made behind it.
func TestTwoShareNothing(t *testing.T) {
	a, b := begin(t, 1024, txn{birth: 1, updates: []int{16}}), begin(t, 500)
	b.begin(1)
	b.update(1, 3)
	c := begin(t, 1024)
	c.is(1, 2)
	a.update(1, 3)
	a.begin(2)
	b.undone(1, 16)
	b.undone(1, 3)
	c.begin(2)
	a.drop(1)
	for _, w := range []*world{a, b, c} {
		w.is(1, 2, 3)
	}
}

// P17.7: asking changes nothing, however often, and whatever is asked for.
func TestAskingChangesNothing(t *testing.T) {
	w := begin(t, 1024, txn{birth: 1, updates: []int{16, 16}}, txn{birth: 2})
	for range 3 {
		w.is(births()...)
		w.fits(math.MaxInt, math.MaxInt, 2)
		w.fits(-1, 0, 0)
	}
	for range 3 {
		w.undone(1, 16)
	}
	for _, birth := range births() {
		w.begin(birth)
	}
	w.is(births()...)
}
