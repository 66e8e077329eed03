package duel

import (
	"bytes"
	"slices"

	"tidemark/api"
)

// isSame tells whether two sides tell and leave the same, as far as it is compared.
func isSame(a, b side) bool { return tellSame(a.told, b.told) && leaveSame(a.left, b.left) }

// tellSame passes over Redone: Choose spares itself what is undone anyhow.
func tellSame(a, b api.Report) bool {
	return slices.Equal(a.Winners, b.Winners) && slices.Equal(a.Losers, b.Losers) && a.Undone == b.Undone && a.Ends == b.Ends
}

// leaveSame passes over the pair and the pages' stamps: they say which changes were laid on the way.
func leaveSame(a, b api.Image) bool {
	return slices.EqualFunc(a.Pages, b.Pages, sameSlots) && bytes.Equal(a.Log, b.Log) &&
		slices.EqualFunc(a.Masters[:], b.Masters[:], bytes.Equal)
}

func sameSlots(a, b []byte) bool { return bytes.Equal(slotsOf(a), slotsOf(b)) }

// slotsOf gives the bytes between a page's head and its tail; the page comes from a disk, so it has both.
func slotsOf(b []byte) []byte { return b[api.PageHead : len(b)-api.PageTail] }
