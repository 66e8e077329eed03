package pool

import (
	"slices"

	"tidemark/api"
	"tidemark/page"
	"tidemark/pair"
)

func isTaken(*frame) bool   { return true }
func isDirty(f *frame) bool { return f.rec != 0 }
func isIdle(f *frame) bool  { return f.pins == 0 }

func (f *frame) lsn() int {
	lsn, _ := page.Lsn(f.bytes) // it has one: what is in a frame is a right page
	return lsn
}

func (p *Pool) isPage(number int) bool {
	return number >= 0 && number < p.d.Shape().Pages
}

// numbers gives the pages whose frames are so, rising: the map's order is not to be seen.
func (p *Pool) numbers(isSo func(*frame) bool) []int {
	var all []int
	for number, f := range p.frames {
		if isSo(f) {
			all = append(all, number)
		}
	}
	slices.Sort(all)
	return all
}

// bring takes a page that is not held into a frame; it is not pinned yet.
func (p *Pool) bring(number int, pick int) api.Errno {
	isFull := len(p.frames) == p.most
	idle := p.numbers(isIdle)
	if isFull && len(idle) == 0 {
		return api.ErrPinned
	}
	// The page is read ahead of what gives up its frame: if it is not right, nothing has changed.
	b, e := p.read(number)
	if e != api.OK {
		return e
	}
	if isFull {
		if e := p.giveUp(idle[rest(pick, len(idle))]); e != api.OK {
			return e
		}
	}
	p.frames[number] = &frame{bytes: b}
	return api.OK
}

// read gives a page as it is on the disk, if it is right there.
func (p *Pool) read(number int) ([]byte, api.Errno) {
	b, e := p.d.ReadPage(number)
	if e != api.OK {
		return nil, p.met(e)
	}
	if _, e := page.Check(b, number, p.d.Shape().Slots); e != api.OK {
		return nil, e
	}
	return b, api.OK
}

// giveUp makes a held page's frame free.
func (p *Pool) giveUp(number int) api.Errno {
	if e := p.clean(number); e != api.OK {
		return e
	}
	delete(p.frames, number)
	return api.OK
}

// clean writes a page, if it is held and dirty: the log first.
func (p *Pool) clean(number int) api.Errno {
	f, held := p.frames[number]
	if !held || !isDirty(f) {
		return api.OK
	}
	if e := p.met(p.l.Flush(f.lsn())); e != api.OK {
		return e
	}
	if e := p.met(pair.Write(p.d, number, f.bytes)); e != api.OK {
		return e
	}
	f.rec = 0
	return api.OK
}

// met hands an answer on, and marks that this pool has met ErrDead.
func (p *Pool) met(e api.Errno) api.Errno {
	if e == api.ErrDead {
		p.dead = true
	}
	return e
}

// rest is n modulo m, from 0 on, also of a number below 0.
func rest(n int, m int) int {
	return (n%m + m) % m
}
