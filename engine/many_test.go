package engine_test

import (
	"slices"
	"sync"
	"sync/atomic"
	"testing"

	"tidemark/api"
)

// Many callers count up the same keys: each call is done as a whole, so no count is lost.
func TestManyCallers(t *testing.T) { // Types, P26.2
	c := api.Config{Shape: api.Shape{Pages: 5, Slots: 2, Log: 65536}, Frames: 3, Table: 8, Keys: 10}
	x := create(t, c)
	const callers, each = 8, 60
	var counts [10]atomic.Uint64
	var group sync.WaitGroup
	for id := 1; id <= callers; id++ {
		group.Go(func() {
			for done, i := 0, 0; done < each; i++ {
				key := (i*7 + id) % 10
				if countUp(x, id, key) {
					counts[key].Add(1)
					done++
				}
			}
		})
	}
	group.Go(func() {
		for i := range 200 {
			x.e.Clean(i % 5)
			x.e.Checkpoint()
			x.e.Renew()
			if ids := x.e.Ids(); !slices.IsSorted(ids) || len(ids) > callers {
				t.Errorf("Ids: %v", ids)
			}
			if bytes, kept := x.e.Used(); bytes+kept > 65536 {
				t.Errorf("Used: %d, %d", bytes, kept)
			}
			x.e.Disk()
			if l, f := x.e.Dump(); f != api.OK && (f != api.ErrOpen || len(l) != 0) {
				t.Errorf("Dump: %v, %d", l, f)
			}
		}
	})
	group.Wait()
	x.ids()
	var want []api.Entry
	sum := uint64(0)
	for key := range counts {
		n := counts[key].Load()
		sum += n
		if n > 0 {
			want = append(want, api.Entry{Key: key, Value: n})
		}
	}
	if sum != callers*each {
		t.Errorf("%d counts", sum)
	}
	x.dumps(want...)
	y, _ := opens(t, x.d.Crash(api.Choice{}), c, api.Choose)
	y.dumps(want...)
}

// countUp has a key's value be one more, and tells whether that is committed.
func countUp(x *run, id, key int) bool {
	if f := x.e.Begin(id); f == api.ErrLog {
		x.e.Renew() // OK to the one that comes when all others are over
		return false
	} else if f != api.OK {
		x.t.Errorf("Begin: %d", f)
	}
	v, _, f := x.e.Get(id, key, id)
	if f == api.OK {
		f = x.e.Put(id, key, v+1, key)
	}
	switch f {
	case api.OK:
		x.want("Commit", x.e.Commit(id), api.OK)
		return true
	case api.ErrBusy:
		x.want("Abort", x.e.Abort(id, 0), api.OK)
	case api.ErrLog:
		x.want("Abort", x.e.Abort(id, 0), api.ErrTxn)
	default:
		x.t.Errorf("caller %d: %d", id, f)
	}
	return false
}

// One closes while others go on: one Close alone is OK, and behind it nothing is.
func TestManyClose(t *testing.T) { // Types, P26.5
	for range 50 {
		x := create(t, small())
		var closed atomic.Int64
		var group sync.WaitGroup
		for id := range 6 {
			group.Go(func() {
				x.e.Begin(id)
				x.e.Put(id, id, 1, 0)
				if x.e.Close() == api.OK {
					closed.Add(1)
				}
				x.want("Begin", x.e.Begin(id), api.ErrClosed)
			})
		}
		group.Wait()
		if closed.Load() != 1 {
			t.Fatalf("Close answers OK %d times", closed.Load())
		}
	}
}
