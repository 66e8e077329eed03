package choose_test

import (
	"bytes"
	"math"
	"slices"
	"testing"

	"tidemark/api"
	"tidemark/aries"
	"tidemark/choose"
	"tidemark/look"
)

// edges are numbers that may be a birth, an LSN or a page's LSN, and some that may not.
func edges() []int {
	return []int{math.MinInt, math.MinInt + 1, -35, -1, 0, 1, 2, 34, 35, 36, 91, 125, 1<<32 + 35, 1<<60 - 1, 1 << 60, 1<<60 + 1, math.MaxInt - 1, math.MaxInt}
}

func freshly(births ...int) choose.Steps { return choose.New(look.Result{Fresh: births}) }

// Steps are aries', with Plain in them.
var _ aries.Steps = choose.Steps{Plain: aries.Plain{}}

func TestExampleSteps(t *testing.T) { // P24.1: the chapter's example 1
	s := choose.New(exampleFound())
	one := api.Record{Kind: api.KUpdate, Birth: 1, Prev: 1, Page: 0, From: 16, Before: make([]byte, 9), After: []byte{1, 0, 0, 0, 8, 0, 0, 0, 5}}
	two := api.Record{Kind: api.KUpdate, Birth: 91, Prev: 91, Page: 1, From: 16, Before: []byte{0}, After: []byte{1}}
	for i, c := range []struct{ got, want bool }{
		{s.Redo(35, one, 0), false},
		{s.Redo(35, one, 34), false},
		{s.Redo(35, one, 35), false},
		{s.Redo(35, one, 36), false},
		{s.Redo(125, two, 0), true},
		{s.Redo(125, two, 124), true},
		{s.Redo(125, two, 125), false},
		{s.Redo(125, two, 126), false},
		{s.Lay(35, one, 0), false},
		{s.Lay(35, one, 34), false},
		{s.Lay(35, one, 35), true},
		{s.Lay(35, one, 36), true},
		{s.Lay(125, two, 0), true},
		{s.Lay(125, two, 124), true},
		{s.Lay(125, two, 125), true},
		{s.Lay(125, two, 126), true},
	} {
		if c.got != c.want {
			t.Errorf("answer %d: %v, want %v", i, c.got, c.want)
		}
	}
}

func TestEachKind(t *testing.T) { // P24.1: Redo asks for the kind, Lay does not; any LSNs
	s := freshly(35, 91)
	for kind := -1; kind <= 8; kind++ {
		for _, birth := range edges() {
			isFresh := birth == 35 || birth == 91
			for _, r := range []api.Record{
				{Kind: kind, Birth: birth},
				{Kind: kind, Birth: birth, Prev: 35, Id: 35, Page: 35, From: 35, Before: []byte{35}, After: []byte{36}, Next: 35},
			} {
				for _, lsn := range edges() {
					for _, page := range edges() {
						redo, lay := page < lsn, true
						if isFresh && kind == 2 {
							redo = false
						}
						if isFresh {
							lay = page >= lsn
						}
						if s.Redo(lsn, r, page) != redo || s.Lay(lsn, r, page) != lay {
							t.Fatalf("of %v at %d, the page at %d: Redo %v, Lay %v, want %v, %v", r, lsn, page, s.Redo(lsn, r, page), s.Lay(lsn, r, page), redo, lay)
						}
					}
				}
			}
		}
	}
}

// wantFresh looks which births the steps know.
func wantFresh(t *testing.T, s choose.Steps, births []int, fresh ...int) {
	t.Helper()
	for _, birth := range births {
		is := slices.Contains(fresh, birth)
		r := api.Record{Kind: api.KUpdate, Birth: birth}
		if s.Redo(2, r, 1) == is || s.Lay(2, r, 1) == is || !s.Lay(2, r, 2) {
			t.Errorf("birth %d: Redo %v, Lay %v, want it fresh: %v", birth, s.Redo(2, r, 1), s.Lay(2, r, 1), is)
		}
	}
}

func TestAnyBirths(t *testing.T) { // P24.1: each birth of the list, whatever the list is, and no other
	all := edges()
	wantFresh(t, choose.New(look.Result{}), all)
	wantFresh(t, freshly([]int{}...), all)
	for _, birth := range all {
		wantFresh(t, freshly(birth), all, birth)
	}
	for _, births := range [][]int{{1, 35, 91}, {91, 35, 1}, {35, 1, 91, 1, 35}, {0}, {0, 0}, {-1, math.MinInt, math.MaxInt}, all} {
		wantFresh(t, freshly(births...), all, births...)
	}
	var even, both []int
	for n := range 2000 {
		both = append(both, n)
		if n%2 == 0 {
			even = append(even, n)
		}
	}
	wantFresh(t, freshly(even...), both, even...)
}

func TestFreshAlone(t *testing.T) { // P24.1: the births of found.Fresh, not of its other lists
	found := look.Result{
		Rows:    []api.Row{{Birth: 1, Id: 2, State: api.SOpen, Last: 34, Next: 36}, {Birth: 35, State: api.SAborting}},
		Winners: []int{91}, Undo: []int{125, 34}, Redo: 35, Bytes: 36,
	}
	wantFresh(t, choose.New(found), edges())
	found.Fresh = []int{2}
	wantFresh(t, choose.New(found), edges(), 2)
}

func TestFoundIsNotKept(t *testing.T) { // P24.1, P24.4: whatever becomes of found's lists
	births := []int{1, 35, 91, -7, -7}
	found := look.Result{Fresh: births[:3], Winners: []int{125}}
	s := choose.New(found)
	if !slices.Equal(births, []int{1, 35, 91, -7, -7}) || !slices.Equal(found.Winners, []int{125}) {
		t.Errorf("New: found is %v, %v", births, found.Winners)
	}
	wantFresh(t, s, edges(), 1, 35, 91)
	for i := range births {
		births[i] = 36
	}
	found.Winners[0] = 36
	wantFresh(t, s, edges(), 1, 35, 91)
	if !slices.Equal(births, []int{36, 36, 36, 36, 36}) {
		t.Errorf("the steps changed found: %v", births)
	}
}

func TestStepsAreApart(t *testing.T) { // P24.1: each New gives steps of its own; a question changes nothing
	one, two, none := freshly(1, 2), freshly(2, 35), freshly()
	same := one
	for range 2 {
		wantFresh(t, one, edges(), 1, 2)
		wantFresh(t, two, edges(), 2, 35)
		wantFresh(t, none, edges())
		wantFresh(t, same, edges(), 1, 2)
	}
	// What Plain answers is to be had still.
	if r := (api.Record{Kind: api.KUpdate, Birth: 1}); !one.Plain.Redo(2, r, 1) || !one.Plain.Lay(2, r, 1) {
		t.Errorf("Plain: Redo %v, Lay %v", one.Plain.Redo(2, r, 1), one.Plain.Lay(2, r, 1))
	}
}

func TestRecordsAreNotChanged(t *testing.T) { // DOC.md's rule 2
	s := freshly(1)
	for _, birth := range []int{1, 2} {
		before, after := []byte{1, 2, 3, 4}, []byte{5, 6, 7, 8}
		r := api.Record{Kind: api.KUpdate, Birth: birth, From: 16, Before: before[:2], After: after[:2]}
		s.Redo(9, r, 8)
		s.Lay(9, r, 9)
		if !bytes.Equal(before, []byte{1, 2, 3, 4}) || !bytes.Equal(after, []byte{5, 6, 7, 8}) {
			t.Errorf("birth %d: % x, % x", birth, before, after)
		}
	}
}

func TestAskedByMany(t *testing.T) { // P24.1: many may ask at a time
	s := freshly(1, 35)
	done := make(chan bool)
	for range 8 {
		go func() {
			right := true
			for n := range 500 {
				r := api.Record{Kind: api.KUpdate, Birth: n % 40}
				is := n%40 == 1 || n%40 == 35
				right = right && s.Redo(2, r, 1) == !is && s.Lay(2, r, 1) == !is
			}
			done <- right
		}()
	}
	for range 8 {
		if !<-done {
			t.Errorf("a wrong answer")
		}
	}
}
