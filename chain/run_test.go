package chain_test

import (
	"math/rand"
	"slices"
	"testing"

	"tidemark/api"
	"tidemark/chain"
	"tidemark/disk"
	"tidemark/wal"
)

// steps tells a second time, by the chapter's numbered steps, what a walk answers and which places it reads.
func steps(l log, undo bool, from int) (list []int, e api.Errno, asked []int) {
	if from == 0 {
		return nil, api.OK, nil
	}
	if from < 0 {
		return nil, api.ErrChain, nil
	}
	update, birth := undo, 0
	for at := from; ; {
		if len(asked) == 4096 {
			return nil, api.ErrChain, asked
		}
		asked = append(asked, at)
		r, there := l[at]
		if !there {
			return nil, api.ErrLsn, asked
		}
		if r.Kind < 1 || r.Kind > 6 || update && r.Kind != 2 {
			return nil, api.ErrChain, asked
		}
		if len(asked) == 1 {
			if birth = r.Birth; r.Kind == 1 {
				birth = at
			}
		}
		if r.Kind == 1 {
			if at != birth {
				return nil, api.ErrChain, asked
			}
			if !undo {
				list = append(list, at)
			}
			return list, api.OK, asked
		}
		if r.Birth != birth || birth < 1 || birth > at-1 {
			return nil, api.ErrChain, asked
		}
		if !undo || r.Kind == 2 {
			list = append(list, at)
		}
		to := r.Prev
		if update = undo && r.Kind == 3; update {
			if to = r.Next; to == 0 {
				return list, api.OK, asked
			}
		}
		if to < birth || to > at-1 {
			return nil, api.ErrChain, asked
		}
		at = to
	}
}

// P12.1 to P12.3 over small logs of any records, against the second telling.
func TestAnyLogs(t *testing.T) {
	random := rand.New(rand.NewSource(12))
	told := 0
	for range 60000 {
		l := log{}
		size := 1 + random.Intn(12)
		for lsn := range size {
			r := api.Record{Kind: 2 + random.Intn(5), Birth: 1, Prev: lsn - random.Intn(3), Next: random.Intn(lsn + 1)}
			if lsn == 1 || random.Intn(20) == 0 {
				r.Kind = 1
			}
			if random.Intn(20) == 0 {
				r = api.Record{Kind: random.Intn(9) - 1, Birth: random.Intn(4), Prev: random.Intn(14) - 1, Next: random.Intn(14) - 1}
			}
			if random.Intn(2) == 0 && r.Kind != 1 {
				r.Kind = 2 + random.Intn(2)
			}
			if random.Intn(30) != 0 {
				l[lsn] = r
			}
		}
		for from := -1; from <= size; from++ {
			for _, name := range []string{"Back", "Undo"} {
				list, e, asked := steps(l, name == "Undo", from)
				want(t, name, l, from, list, e, asked)
				if e == api.OK && len(list) > 2 {
					told++
				}
			}
		}
		if t.Failed() {
			t.Fatalf("in %v", l)
		}
	}
	if told < 10000 {
		t.Errorf("only %d lists of some length", told)
	}
}

// running is a transaction of a run: its records, and its updates that are not taken back.
type running struct {
	birth    int
	all      []int
	left     []int
	aborting bool
}

// run writes transactions side by side into a log, and keeps what Back and Undo must tell of each record.
type run struct {
	t          *testing.T
	log        *wal.Log
	random     *rand.Rand
	open       []*running
	back, undo map[int][]int
}

func (u *run) append(x *running, r api.Record) int {
	if x.birth != 0 {
		r.Birth, r.Prev = x.birth, x.all[len(x.all)-1]
	}
	lsn, e := u.log.Append(r)
	if e != api.OK {
		u.t.Fatalf("Append: %d", e)
	}
	x.all = append(x.all, lsn)
	u.back[lsn] = backwards(x.all)
	return lsn
}

func backwards(list []int) []int {
	list = slices.Clone(list)
	slices.Reverse(list)
	return list
}

func (u *run) begin() {
	x := &running{}
	x.birth = u.append(x, api.Record{Kind: api.KBegin, Id: 1 + u.random.Intn(64)})
	u.open = append(u.open, x)
}

func (u *run) update(x *running) {
	lsn := u.append(x, api.Record{Kind: api.KUpdate, Page: u.random.Intn(4), From: 16 + u.random.Intn(40), Before: []byte{0}, After: []byte{1}})
	x.left = append(x.left, lsn)
	u.undo[lsn] = backwards(x.left)
}

func (u *run) compensate(x *running) {
	r := api.Record{Kind: api.KUndo, Page: 1, From: 16, After: []byte{0}}
	x.left = x.left[:len(x.left)-1]
	if len(x.left) > 0 {
		r.Next = x.left[len(x.left)-1]
	}
	u.append(x, r)
}

// end takes back all that is left, or commits, and ends.
func (u *run) end(i int) {
	x := u.open[i]
	if u.random.Intn(2) == 0 {
		u.append(x, api.Record{Kind: api.KCommit})
	} else {
		u.append(x, api.Record{Kind: api.KAbort})
		for len(x.left) > 0 {
			u.compensate(x)
		}
	}
	u.append(x, api.Record{Kind: api.KEnd})
	u.open = slices.Delete(u.open, i, i+1)
}

func (u *run) step() {
	if len(u.open) == 0 || u.random.Intn(8) == 0 && len(u.open) < 8 {
		u.begin()
		return
	}
	i := u.random.Intn(len(u.open))
	x := u.open[i]
	switch u.random.Intn(12) {
	case 0:
		u.end(i)
	case 1, 2, 3:
		if len(x.left) > 0 {
			u.compensate(x)
		}
	case 4:
		if _, e := u.log.Append(api.Record{Kind: api.KCheck}); e != api.OK {
			u.t.Fatalf("Append: %d", e)
		}
	default:
		u.update(x)
	}
}

// told looks that each record of the log tells what was kept of it.
func (u *run) told() {
	for lsn, r := range u.log.All() {
		back, e := chain.Back(u.log.Read, lsn)
		if list, there := u.back[lsn]; !slices.Equal(back, list) || (e == api.OK) != there || !there && e != api.ErrChain {
			u.t.Fatalf("Back(%d): %v, %d, want %v", lsn, back, e, list)
		}
		undo, e := chain.Undo(u.log.Read, lsn)
		if list, there := u.undo[lsn]; !slices.Equal(undo, list) || (e == api.OK) != there || !there && e != api.ErrChain {
			u.t.Fatalf("Undo(%d), kind %d: %v, %d, want %v", lsn, r.Kind, undo, e, list)
		}
		for _, list := range [][]int{back, undo} {
			if slices.Reverse(list); !slices.IsSorted(list) || len(slices.Compact(list)) != len(list) {
				u.t.Fatalf("at %d: %v does not fall", lsn, list)
			}
		}
	}
	for _, lsn := range []int{u.log.Base(), u.log.Base() + 2, u.log.End()} { // no record begins there
		if l, e := chain.Back(u.log.Read, lsn); lsn != 0 && (len(l) != 0 || e != api.ErrLsn) {
			u.t.Fatalf("Back(%d): %v, %d", lsn, l, e)
		}
	}
}

// P12.4: in logs whose transactions hang together Back and Undo tell just the transaction's own.
func TestLogsThatHangTogether(t *testing.T) {
	for seed, base := range []int{0, 1, 254, 65535, 1 << 32, mostLsn - 131072} {
		d, e := disk.New(api.Shape{Pages: 4, Slots: 4, Log: api.MostLog})
		if e != api.OK {
			t.Fatalf("New: %d", e)
		}
		l, e := wal.Open(d, base)
		if e != api.OK {
			t.Fatalf("Open: %d", e)
		}
		u := &run{t: t, log: l, random: rand.New(rand.NewSource(int64(seed))), back: map[int][]int{}, undo: map[int][]int{}}
		for l.Bytes() < 40000 {
			u.step()
		}
		u.told()
		if len(u.undo) < 300 {
			t.Errorf("only %d updates", len(u.undo))
		}
	}
}
