package duel

import (
	"sync"

	"tidemark/api"
	"tidemark/disk"
	"tidemark/restart"
)

// side is what one manager has done.
type side struct {
	manager int
	told    api.Report
	left    api.Image
	refused api.Errno
}

// sideBySide has both managers run at the same time, each on a copy of a disk: they have nothing in common that one could change under the other.
func sideBySide(d *disk.Disk, frames int) (aries, choose side) {
	managers := []int{api.Aries, api.Choose}
	done := make(chan side, len(managers)) // room for all: none waits for the other to be heard
	var running sync.WaitGroup
	for _, manager := range managers {
		own := d.Copy()
		running.Add(1)
		go func() {
			defer running.Done()
			done <- managed(own, frames, manager)
		}()
	}
	running.Wait()
	close(done)
	for x := range done { // whoever was first: each says which manager it is
		if x.manager == api.Aries {
			aries = x
		} else {
			choose = x
		}
	}
	return aries, choose
}

// managed has one manager set a disk right, and tells what lasts there then.
func managed(d *disk.Disk, frames int, manager int) side {
	told, e := restart.Run(d, frames, manager)
	return side{manager: manager, told: told, left: d.Lasts(), refused: e}
}
