package restart_test

import (
	"bytes"
	"testing"

	"tidemark/api"
	"tidemark/disk"
	"tidemark/master"
)

// mostActs is the chapter's bound.
func mostActs(log int, pages int) int { return 16 * (log + 1) * (pages + 1) }

// both runs the managers on two copies of an image, and tells how many records less Choose has laid.
func (g *engine) both(d *disk.Disk, o outcome) int {
	g.t.Helper()
	var redone [3]int
	var images [3]api.Image
	frames := 2 + g.dice.Intn(15)
	for _, manager := range []int{api.Aries, api.Choose} {
		x := d.Copy()
		r, e := run(g.t, x, frames, manager)
		ok(g.t, "Run", e)
		g.wantLeft(x, r, o)
		if most := mostActs(d.LogLen(), g.shape.Pages); x.Acts() > most {
			g.t.Errorf("%d acts, at most %d", x.Acts(), most)
		}
		redone[manager], images[manager] = r.Redone, x.Image()
		g.again(x, o)
	}
	a, c := images[api.Aries], images[api.Choose]
	if !bytes.Equal(a.Masters[0], c.Masters[0]) || !bytes.Equal(a.Masters[1], c.Masters[1]) {
		g.t.Errorf("the masters part: % x, % x", a.Masters, c.Masters)
	}
	return redone[api.Aries] - redone[api.Choose]
}

// again has a second restart change nothing but the turn.
func (g *engine) again(d *disk.Disk, o outcome) {
	g.t.Helper()
	was := d.Image()
	r, e := run(g.t, d, 2+g.dice.Intn(15), g.manager())
	ok(g.t, "a second Run", e)
	named := o.named
	named.Turn++
	left(g.t, d, named)
	is := d.Image()
	was.Masters[named.Turn%2] = is.Masters[named.Turn%2]
	if !isEmpty(r) || !sameImage(is, was) {
		g.t.Errorf("a second Run: %v; % x, was % x", r, is, was)
	}
}

// Runs of engines, crashes and restarts, one behind the other on one disk from its making on, the managers picked anew each time; the restarts are cut, too.
func TestRunsThroughCrashes(t *testing.T) { // P25.3, P25.4, P25.5
	won, lost, less, cuts, torn := 0, 0, 0, 0, 0
	for seed := range int64(250) {
		g := newEngine(t, seed)
		for range 8 {
			d := g.d.Crash(g.choice())
			o := g.expected(d)
			won, lost = won+len(o.r.Winners), lost+len(o.r.Losers)
			less += g.both(d, o)
			torn += tears(d)
			for {
				d.Stop(g.dice.Intn(60))
				r, e := run(t, d, 2+g.dice.Intn(3), g.manager())
				if e == api.OK {
					g.wantLeft(d, r, o)
					break
				}
				if e != api.ErrDead {
					t.Fatalf("seed %d: a restart answers %d", seed, e)
				}
				cuts++
				d = d.Crash(g.choice())
				next := g.expected(d)
				g.sameSlots(next, o)
				o = next
				g.both(d, o)
				torn += tears(d)
			}
			if t.Failed() {
				t.Fatalf("seed %d", seed)
			}
			d.Stop(0)
			g.d = d
			g.open()
			g.d.Stop(g.dice.Intn(70))
			g.run(60)
		}
	}
	if won < 1000 || lost < 2000 || less < 800 || cuts < 500 || torn < 50 {
		t.Errorf("only %d winners, %d losers, %d records less, %d restarts cut, %d tears", won, lost, less, cuts, torn)
	}
}

func (g *engine) sameSlots(a, b outcome) {
	g.t.Helper()
	for number := range a.slots {
		if !bytes.Equal(a.slots[number], b.slots[number]) {
			g.t.Errorf("behind a cut the winners leave % x on page %d, ahead of it % x", a.slots[number], number, b.slots[number])
		}
	}
}

// tears counts the pages, and the pair, that are not right.
func tears(d *disk.Disk) int {
	n := 0
	m := d.Image()
	for number, b := range m.Pages {
		if !isRight(b, number) {
			n++
		}
	}
	if !isZeros(m.Pair) && !isRight(m.Pair[16:], int(m.Pair[8])) {
		n++
	}
	return n
}

// Each act of each restart of many images is the last one, by either manager, with several crashes behind, and once more within the second restart.
func TestRestartsCutAtEachAct(t *testing.T) { // P25.5
	lost, cuts := 0, 0
	for seed := range int64(24) {
		g := newOpen(t, 1000+seed)
		g.d.Stop(20 + g.dice.Intn(50))
		g.run(100)
		for _, manager := range []int{api.Aries, api.Choose} {
			d := g.d.Crash(g.choice())
			o := g.expected(d)
			lost += min(1, len(o.r.Losers))
			for stop := 1; ; stop++ {
				x := d.Copy()
				x.Stop(stop)
				r, e := run(t, x, g.frames, manager)
				if e == api.OK {
					g.wantLeft(x, r, o)
					break
				}
				if e != api.ErrDead {
					t.Fatalf("seed %d, stop %d: a restart answers %d", seed, stop, e)
				}
				cuts++
				for _, c := range []api.Choice{{}, {Log: -1, Keep: []int{1}}, g.choice(), g.choice()} {
					g.restartAgain(x.Crash(c), o)
				}
				if t.Failed() {
					t.Fatalf("seed %d, stop %d", seed, stop)
				}
			}
		}
	}
	if lost < 30 || cuts < 700 {
		t.Errorf("only %d images with losers, %d restarts cut", lost, cuts)
	}
}

// restartAgain cuts a restart once more, and then lets one end.
func (g *engine) restartAgain(d *disk.Disk, first outcome) {
	g.t.Helper()
	o := g.expected(d)
	g.sameSlots(o, first)
	x := d.Copy()
	x.Stop(1 + g.dice.Intn(40))
	if _, e := run(g.t, x, 2+g.dice.Intn(3), g.manager()); e == api.ErrDead {
		d = x.Crash(g.choice())
		o = g.expected(d)
		g.sameSlots(o, first)
	}
	r, e := run(g.t, d, 2+g.dice.Intn(3), g.manager())
	ok(g.t, "the last restart", e)
	g.wantLeft(d, r, o)
}

// At each act a run may be cut, from a disk's making on; behind any crash both managers leave what the winners left.
func TestRunsCutAtEachAct(t *testing.T) { // P25.5
	images, lost := 0, 0
	for seed := range int64(14) {
		for stop := 1; ; stop++ {
			g := newOpen(t, 2000+seed)
			g.d.Stop(stop)
			g.run(60)
			if !g.cut {
				break
			}
			for _, c := range []api.Choice{{}, {Log: -1, Keep: []int{1}}, g.choice(), g.choice()} {
				d := g.d.Crash(c)
				o := g.expected(d)
				images, lost = images+1, lost+len(o.r.Losers)
				g.both(d, o)
			}
			if t.Failed() {
				t.Fatalf("seed %d, stop %d", seed, stop)
			}
		}
	}
	if images < 1000 || lost < 1500 {
		t.Errorf("only %d images, %d losers", images, lost)
	}
}

// The first restart of a disk is cut at each act: it is a new disk again, or has its first master, torn or not.
func TestFirstRestartCut(t *testing.T) { // P25.2, P25.5
	for _, manager := range []int{api.Aries, api.Choose} {
		whole, e := disk.New(small())
		ok(t, "disk.New", e)
		_, e = run(t, whole, 2, manager)
		ok(t, "Run", e)
		for stop := 1; stop <= whole.Acts(); stop++ {
			for keep := range 43 {
				d, e := disk.New(small())
				ok(t, "disk.New", e)
				d.Stop(stop)
				if _, e := run(t, d, 2, manager); e != api.ErrDead {
					t.Fatalf("stop %d: %d", stop, e)
				}
				d = d.Crash(api.Choice{Keep: []int{keep}})
				s, there, e := master.Newest(d)
				ok(t, "Newest", e)
				if there != (s.Turn == 1) {
					t.Fatalf("stop %d, keep %d: %v, %v", stop, keep, s, there)
				}
				runs(t, d, 2, 3-manager, api.Report{}, master.State{Turn: s.Turn + 1})
			}
		}
	}
}
