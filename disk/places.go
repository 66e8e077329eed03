package disk

import "tidemark/api"

// places are the bytes at each place: those of the pages by their numbers, then the pair's, then the two masters'. A place that is left out is nil.
type places [][]byte

// nowhere is the number of a place that is not there.
const nowhere = -1

// mayBe tells whether a disk may have that shape.
func mayBe(s api.Shape) bool {
	return within(s.Pages, 1, api.MaxPages) && within(s.Slots, 1, api.MaxSlots) && within(s.Log, api.LeastLog, api.MostLog)
}

func within(n, least, most int) bool { return n >= least && n <= most }

// blank gives the places of a new disk.
func blank(s api.Shape) places {
	n := api.PageHead + api.SlotBytes*s.Slots + api.PageTail
	var p places
	for range s.Pages {
		p = append(p, make([]byte, n))
	}
	return append(p, make([]byte, api.PairHead+n), make([]byte, api.MasterBytes), make([]byte, api.MasterBytes))
}

// placesOf gives an image's places; their bytes are the image's own.
func placesOf(m api.Image) places {
	var p places
	p = append(p, m.Pages...)
	p = append(p, m.Pair)
	return append(p, m.Masters[:]...)
}

// image gives an image of these places and that log; all of it is copied.
func (p places) image(log []byte) api.Image {
	c := p.copied()
	pages := len(c) - 3
	return api.Image{
		// A list of its own: its spare room must not hold the pair and the masters.
		Pages:   append([][]byte{}, c[:pages]...),
		Pair:    c[pages],
		Masters: [2][]byte{c[pages+1], c[pages+2]},
		Log:     own(log),
	}
}

func (p places) copied() places {
	c := make(places, len(p))
	for i, b := range p {
		c[i] = own(b)
	}
	return c
}

// only gives the same bytes at the places from the first number up to the second, and leaves the others out.
func (p places) only(from, to int) places {
	some := make(places, len(p))
	copy(some[from:to], p[from:to])
	return some
}

// own gives a copy that is a list, if an empty one, in every case.
func own(b []byte) []byte { return append([]byte{}, b...) }

func sameLength(a, b []byte) bool { return len(a) == len(b) }

func (d *Disk) pagePlace(p int) int {
	if p < 0 || p >= d.shape.Pages {
		return nowhere
	}
	return p
}

func (d *Disk) pairPlace() int { return d.shape.Pages }

func (d *Disk) masterPlace(k int) int {
	if k != 0 && k != 1 {
		return nowhere
	}
	return d.pairPlace() + 1 + k
}
