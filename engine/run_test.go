package engine_test

import (
	"math/rand"
	"slices"
	"testing"

	"tidemark/api"
)

// someConfig gives one that may be; small ones, so that all that may be refused is.
func someConfig(r *rand.Rand) api.Config {
	return api.Config{
		Shape:  api.Shape{Pages: 1 + r.Intn(6), Slots: 1 + r.Intn(3), Log: 1024 + r.Intn(2500)},
		Frames: 2 + r.Intn(4),
		Table:  1 + r.Intn(5),
		Keys:   1 + r.Intn(24),
	}
}

// someValue gives values of all lengths, equal ones among them.
func someValue(r *rand.Rand) uint64 {
	if r.Intn(4) == 0 {
		return uint64(r.Intn(2))
	}
	return r.Uint64() >> r.Intn(64)
}

// pair is an engine and its twin, that are asked the same.
type pair struct {
	*run
	w     *twin
	dice  *rand.Rand
	tally map[api.Errno]int
}

// call does one call to both.
func (p *pair) call() api.Errno {
	r, c := p.dice, p.w.c
	id, key, pick := r.Intn(c.Table+2), r.Intn(c.Keys+2)-1, r.Intn(9)-4
	switch k := r.Intn(60); {
	case k < 12:
		return p.same("Begin", p.e.Begin(id), p.w.begin(id))
	case k < 18:
		v, there, f := p.e.Get(id, key, pick)
		wv, wthere, wf := p.w.get(id, key, pick)
		if v != wv || there != wthere {
			p.t.Errorf("Get(%d, %d): %d, %v, want %d, %v", id, key, v, there, wv, wthere)
		}
		return p.same("Get", f, wf)
	case k < 36:
		v := someValue(r)
		return p.same("Put", p.e.Put(id, key, v, pick), p.w.put(id, key, v, pick))
	case k < 42:
		gone, f := p.e.Delete(id, key, pick)
		wgone, wf := p.w.delete(id, key, pick)
		if gone != wgone {
			p.t.Errorf("Delete(%d, %d): %v, want %v", id, key, gone, wgone)
		}
		return p.same("Delete", f, wf)
	case k < 47:
		return p.same("Commit", p.e.Commit(id), p.w.commit(id))
	case k < 50:
		return p.same("Abort", p.e.Abort(id, pick), p.w.abort(id, pick))
	case k < 53:
		return p.same("Checkpoint", p.e.Checkpoint(), p.w.checkpoint())
	case k < 56:
		number := r.Intn(c.Shape.Pages+2) - 1
		return p.same("Clean", p.e.Clean(number), p.w.clean(number))
	case k < 58:
		return p.same("Renew", p.e.Renew(), p.w.renew())
	default:
		got, f := p.e.Dump()
		want, wf := p.w.dump()
		if !slices.Equal(got, want) {
			p.t.Errorf("Dump: %v, want %v", got, want)
		}
		return p.same("Dump", f, wf)
	}
}

func (p *pair) same(what string, got, want api.Errno) api.Errno {
	p.want(what, got, want)
	p.tally[want]++
	return got
}

// Each answer of a run without a crash is the model's, each act the one that the layers below say, and each page on the disk the one that was written last.
func TestRunsByTheModel(t *testing.T) { // P26.2, P26.3, P26.4, P26.7
	tally := map[api.Errno]int{}
	for seed := range int64(400) {
		r := rand.New(rand.NewSource(seed))
		c := someConfig(r)
		x := create(t, c)
		p := &pair{run: x, w: twinOf(x, c), dice: r, tally: tally}
		for i := range 250 {
			p.call()
			p.w.agrees(x)
			if t.Failed() {
				t.Fatalf("seed %d, call %d", seed, i)
			}
		}
	}
	for _, f := range []api.Errno{api.OK, api.ErrTxn, api.ErrKey, api.ErrBusy, api.ErrTable, api.ErrFull, api.ErrLog, api.ErrOpen, api.ErrPlace} {
		if tally[f] < 300 {
			t.Errorf("only %d answers %d", tally[f], f)
		}
	}
}
