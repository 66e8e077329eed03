package table

import (
	"cmp"
	"slices"
)

// numbered is what a list can hold: it tells the number that it stands by.
type numbered interface {
	number() int
}

// list has its items by their numbers, rising, each number once at most.
type list[T numbered] struct {
	items []T
}

// place tells where the item with that number stands, or would stand, and whether it is there.
func (l *list[T]) place(number int) (int, bool) {
	return slices.BinarySearchFunc(l.items, number, func(item T, number int) int {
		return cmp.Compare(item.number(), number)
	})
}

// get finds an item by its number.
func (l *list[T]) get(number int) (T, bool) {
	at, there := l.place(number)
	if !there {
		var none T
		return none, false
	}
	return l.items[at], true
}

// lay has an item stand by its number, in the place of one that had it.
func (l *list[T]) lay(item T) {
	at, there := l.place(item.number())
	if there {
		l.items[at] = item
		return
	}
	l.items = slices.Insert(l.items, at, item)
}

// take finds an item by its number, and has it stand there no more.
func (l *list[T]) take(number int) (T, bool) {
	at, there := l.place(number)
	if !there {
		var none T
		return none, false
	}
	item := l.items[at]
	l.items = slices.Delete(l.items, at, at+1)
	return item, true
}
