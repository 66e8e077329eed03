package engine_test

import (
	"testing"

	"tidemark/api"
)

// inFrames has pages 0 and 1 in frames, and transactions 3 and 4 open: 3 has changed page 0, and its records are in memory alone.
func inFrames(t *testing.T) *run {
	t.Helper()
	x := create(t, wide())
	x.one(0, 5)
	x.one(1, 6)
	x.begin(3)
	x.put(3, 0, 9)
	x.begin(4)
	return x
}

// Nobody asks a disk that has died, as long as no act is needed.
func TestADeadDiskIsMetByAnActAlone(t *testing.T) { // P26.6
	x := inFrames(t)
	x.kill()
	x.begin(1)
	x.want("Begin", x.e.Begin(1), api.ErrTxn)
	x.gets(3, 0, 9)
	x.gets(4, 1, 6)
	x.getsNone(4, 0, api.ErrBusy)
	x.getsNone(4, 7, api.OK)
	x.put(4, 1, 7)
	x.put(4, 7, 8)
	x.want("Put", x.e.Put(4, 13, 8, 0), api.ErrFull)
	x.deletes(4, 1, true, api.OK)
	x.deletes(4, 1, false, api.OK)
	x.getsNone(4, 100, api.ErrKey)
	x.getsNone(9, 1, api.ErrTxn)
	x.want("Commit", x.e.Commit(9), api.ErrTxn)
	x.want("Abort", x.e.Abort(9, 0), api.ErrTxn)
	x.want("Clean", x.e.Clean(6), api.ErrPlace)
	x.want("Clean", x.e.Clean(3), api.OK)
	x.want("Renew", x.e.Renew(), api.ErrOpen)
	x.dumpsNone(api.ErrOpen)
	x.ids(1, 3, 4)
	x.abort(3)
	x.abort(4)
	x.abort(1)
	x.ids()
	if _, kept := x.e.Used(); kept != 0 {
		t.Errorf("%d bytes are kept", kept)
	}
	x.getsNone(3, 2, api.ErrTxn)
	x.begin(3)
	x.gets(3, 0, 5)
	x.getsNone(3, 2, api.ErrDead) // that page must be read
	x.all(api.ErrDead)
}

// With all pages in frames even a dump needs no act.
func TestADumpOfFrames(t *testing.T) { // P26.4, P26.6
	x := create(t, small())
	x.one(8, 5)
	x.one(7, 6)
	x.kill()
	x.dumps(api.Entry{Key: 7, Value: 6}, api.Entry{Key: 8, Value: 5})
	x.want("Clean", x.e.Clean(0), api.ErrDead)
	x.all(api.ErrDead)
}

// Each call that needs an act meets it, and none goes on behind that.
func TestEachCallMeetsIt(t *testing.T) { // P26.6
	for name, call := range map[string]func(x *run) api.Errno{
		"Get":         func(x *run) api.Errno { x.getsNone(4, 2, api.ErrDead); return api.ErrDead },
		"Put":         func(x *run) api.Errno { return x.e.Put(4, 2, 9, 0) },
		"Delete":      func(x *run) api.Errno { x.deletes(4, 2, false, api.ErrDead); return api.ErrDead },
		"Commit":      func(x *run) api.Errno { return x.e.Commit(4) },
		"Checkpoint":  func(x *run) api.Errno { return x.e.Checkpoint() },
		"Clean":       func(x *run) api.Errno { return x.e.Clean(0) },
		"clean again": func(x *run) api.Errno { return x.e.Clean(1) },
	} {
		x := inFrames(t)
		x.kill()
		x.want(name, call(x), api.ErrDead)
		x.all(api.ErrDead)
		x.want("Close", x.e.Close(), api.OK)
		x.all(api.ErrClosed)
		x.want("Close", x.e.Close(), api.ErrClosed)
	}
	for name, call := range map[string]func(x *run) api.Errno{
		"Renew": func(x *run) api.Errno { return x.e.Renew() },
		"Dump":  func(x *run) api.Errno { x.dumpsNone(api.ErrDead); return api.ErrDead },
	} {
		x := create(t, wide())
		x.one(0, 5)
		x.kill()
		x.want(name, call(x), api.ErrDead)
		x.all(api.ErrDead)
		if x.e.Disk() != x.d {
			t.Error("Disk is another behind ErrDead")
		}
	}
}

// Abort reads pages that are in no frame.
func TestAbortMeetsIt(t *testing.T) { // P26.2, P26.6
	far := func() *run {
		x := create(t, wide())
		x.one(2, 1)
		x.begin(3)
		for key := range 5 {
			x.put(3, key, 9)
		}
		return x
	}
	whole := far()
	was := whole.d.Acts()
	whole.abort(3)
	acts := whole.d.Acts() - was
	whole.dumps(api.Entry{Key: 2, Value: 1})
	if acts < 10 {
		t.Fatalf("only %d acts", acts)
	}
	for stop := 1; stop <= acts; stop++ {
		x := far()
		x.d.Stop(stop)
		x.want("Abort", x.e.Abort(3, 0), api.ErrDead)
		x.all(api.ErrDead)
		for _, manager := range []int{api.Aries, api.Choose} {
			for _, c := range []api.Choice{{}, {Log: -1, Keep: []int{1}}, {Log: 40, Keep: []int{20}}} {
				y, r := opens(t, x.d.Crash(c), wide(), manager)
				y.dumps(api.Entry{Key: 2, Value: 1})
				if len(r.Losers) != 1 || len(r.Winners) != 1 {
					t.Errorf("stopped at %d: %v", stop, r)
				}
			}
		}
	}
}

// A commit that is cut answers ErrDead: behind the crash it is whole, or was never there.
func TestACommitIsCut(t *testing.T) { // P26.6, P26.8
	was, is := 0, 0
	for stop := 1; stop <= 2; stop++ {
		for log := range 200 {
			x := create(t, small())
			x.one(8, 5)
			x.begin(3)
			x.put(3, 8, 6)
			x.put(3, 7, 6)
			x.d.Stop(stop)
			x.want("Commit", x.e.Commit(3), api.ErrDead)
			x.all(api.ErrDead)
			y, r := opens(t, x.d.Crash(api.Choice{Log: log}), small(), api.Aries+log%2)
			if len(r.Winners) == 2 {
				y.dumps(api.Entry{Key: 7, Value: 6}, api.Entry{Key: 8, Value: 6})
				is++
			} else {
				y.dumps(api.Entry{Key: 8, Value: 5})
				was++
			}
		}
	}
	if was < 300 || is < 1 {
		t.Errorf("%d as it was, %d committed", was, is)
	}
}
