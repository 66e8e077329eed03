package duel

import (
	"slices"
	"testing"

	"tidemark/api"
)

// Both managers tell the same of every image that they take, and leave the same log and masters: so what else would part two sides is tried here, without a restart.

// anySide has something in each of its parts.
func anySide() side {
	return side{
		told: api.Report{Winners: []int{5, 9}, Losers: []int{7}, Redone: 3, Undone: 2, Ends: 1},
		left: api.Image{
			Pages:   [][]byte{bytesFrom(1, 40), bytesFrom(2, 40)},
			Pair:    bytesFrom(3, 56),
			Log:     bytesFrom(4, 10),
			Masters: [2][]byte{bytesFrom(5, 40), bytesFrom(6, 40)},
		},
	}
}

func bytesFrom(first, n int) []byte {
	b := make([]byte, n)
	for i := range b {
		b[i] = byte(first + i)
	}
	return b
}

func TestSidesThatAreSame(t *testing.T) { // P29.2
	if !isSame(anySide(), anySide()) || !isSame(side{}, side{}) {
		t.Errorf("two like sides part")
	}
	none, empty := anySide(), anySide()
	none.told.Winners, empty.told.Winners = nil, []int{}
	none.left.Log, empty.left.Log = nil, []byte{}
	if !isSame(none, empty) {
		t.Errorf("none and empty part")
	}
}

func TestWhatParts(t *testing.T) { // P29.2: all of what is compared, either way round
	for what, change := range map[string]func(*side){
		"a winner":        func(x *side) { x.told.Winners[1]++ },
		"a winner more":   func(x *side) { x.told.Winners = append(x.told.Winners, 11) },
		"no winners":      func(x *side) { x.told.Winners = nil },
		"a loser":         func(x *side) { x.told.Losers[0]-- },
		"a loser more":    func(x *side) { x.told.Losers = append(x.told.Losers, 11) },
		"no losers":       func(x *side) { x.told.Losers = nil },
		"undone":          func(x *side) { x.told.Undone++ },
		"ends":            func(x *side) { x.told.Ends++ },
		"a byte of log":   func(x *side) { x.left.Log[9]++ },
		"a byte less log": func(x *side) { x.left.Log = x.left.Log[:9] },
		"no log":          func(x *side) { x.left.Log = nil },
		"a page less":     func(x *side) { x.left.Pages = x.left.Pages[:1] },
	} {
		parts(t, what, change)
	}
	for k := range 2 {
		for i := range 40 {
			parts(t, "a byte of a master", func(x *side) { x.left.Masters[k][i]++ })
		}
	}
	parts(t, "the masters", func(x *side) { slices.Reverse(x.left.Masters[:]) })
	parts(t, "the pages", func(x *side) { slices.Reverse(x.left.Pages) })
	for number := range 2 {
		for i := 16; i < 32; i++ {
			parts(t, "a byte of a slot", func(x *side) { x.left.Pages[number][i]++ })
		}
	}
}

func parts(t *testing.T, what string, change func(*side)) {
	t.Helper()
	x, y := anySide(), anySide()
	change(&y)
	if isSame(x, y) || isSame(y, x) {
		t.Errorf("%s does not part two sides", what)
	}
}

func TestWhatDoesNotPart(t *testing.T) { // P29.2: the pages' LSNs, numbers and sums, the pair, Redone
	passes := func(what string, change func(*side)) {
		x, y := anySide(), anySide()
		change(&y)
		if !isSame(x, y) || !isSame(y, x) {
			t.Errorf("%s parts two sides", what)
		}
	}
	passes("Redone", func(x *side) { x.told.Redone = 0 })
	for i := range 56 {
		passes("a byte of the pair", func(x *side) { x.left.Pair[i]++ })
	}
	for number := range 2 {
		for i := range 40 {
			if i < 16 || i >= 32 {
				passes("a byte of a page's head or tail", func(x *side) { x.left.Pages[number][i]++ })
			}
		}
	}
}
