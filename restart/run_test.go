package restart_test

import (
	"bytes"
	"encoding/binary"
	"math/rand"
	"testing"

	"tidemark/api"
	"tidemark/disk"
	"tidemark/look"
	"tidemark/master"
	"tidemark/scan"
)

// verdict is what the chapter's steps 2 and 3 say of an image: what the next master says, and what is told but for Redone; or that it is refused, and why.
type verdict struct {
	refused string
	named   master.State
	r       api.Report
}

func judge(s api.Shape, m api.Image) verdict {
	state, there := newestIn(m)
	if !there && !isBlankImage(m) {
		return verdict{refused: "no master"}
	}
	if state.Turn > top || state.Base > top {
		return verdict{refused: "master"}
	}
	inPair, greatest := pairIn(s, m)
	for number, b := range m.Pages {
		if isRight(b, number) {
			greatest = max(greatest, lsnOf(b))
		} else if number != inPair {
			return verdict{refused: "page"}
		}
	}
	if _, e := look.Analyse(m.Log, state.Base, state.Check, s.Pages, s.Slots); e != api.OK {
		return verdict{refused: "log"}
	}
	all, a := scan.All(m.Log, state.Base)
	if greatest >= state.Base+1+a {
		return verdict{refused: "ahead"}
	}
	r, more := told(all)
	if n := a + more; n > s.Log || state.Base+n > top {
		return verdict{refused: "room"}
	}
	return verdict{named: master.State{Turn: state.Turn + 1, Base: state.Base + a + more}, r: r}
}

func newestIn(m api.Image) (newest master.State, there bool) {
	for k, b := range m.Masters {
		s := master.State{Turn: lsnOf(b), Base: lsnOf(b[8:]), Check: lsnOf(b[16:])}
		isRight := bytes.Equal(b, masterOf(s)) && s.Turn > 0 && s.Turn <= 1<<60 && s.Turn%2 == k && s.Base >= 0 && s.Base <= 1<<60 && s.Check >= 0 && s.Check <= 1<<60
		if isRight && s.Turn > newest.Turn {
			newest, there = s, true
		}
	}
	return newest, there
}

func pairIn(s api.Shape, m api.Image) (number, lsn int) {
	lsn = lsnOf(m.Pair)
	number = int(binary.LittleEndian.Uint32(m.Pair[8:]))
	b := m.Pair[16:]
	if number < s.Pages && lsn > 0 && isRight(b, number) && lsnOf(b) == lsn {
		return number, lsn
	}
	return -1, 0
}

func isBlankImage(m api.Image) bool {
	for _, b := range m.Pages {
		if !isZeros(b) {
			return false
		}
	}
	return isZeros(m.Pair) && len(m.Log) == 0
}

func lsnOf(b []byte) int { return int(binary.LittleEndian.Uint64(b)) }

// twist has an image be another than what a run has left.
type twist struct {
	dice *rand.Rand
	s    *api.Shape
	m    *api.Image
}

// near gives a number at a place that counts, or beside it.
func (w twist) near(at int) int { return max(0, at-2+w.dice.Intn(5)) }

func (w twist) any() {
	r := w.dice
	state, _ := newestIn(*w.m)
	all, a := scan.All(w.m.Log, state.Base)
	end := state.Base + 1 + a
	number := r.Intn(w.s.Pages)
	slots := make([]byte, 16*w.s.Slots)
	r.Read(slots)
	switch r.Intn(14) {
	case 0: // another master
		places := []int{0, state.Base, top, end - 1, 1 << 60}
		s := master.State{Turn: 1 + w.near(state.Turn), Base: w.near(places[r.Intn(5)]), Check: state.Check}
		w.m.Masters[s.Turn%2] = masterOf(s)
	case 1:
		s := state
		s.Turn = []int{top - 1, top, top + 1, 1 << 60}[r.Intn(4)]
		w.m.Masters[s.Turn%2] = masterOf(s)
	case 2: // another checkpoint
		s := state
		s.Turn, s.Check = 1+s.Turn, w.near(end)
		if len(all) > 0 {
			s.Check = all[r.Intn(len(all))].Lsn
		}
		w.m.Masters[s.Turn%2] = masterOf(s)
	case 3: // a page ahead of the log, or not
		w.m.Pages[number] = sheet(number, w.near(end), slots)
	case 4:
		w.m.Pair = pairOf(number, sheet(number, w.near(end), slots))
	case 5:
		w.m.Pair = pairOf(number, w.m.Pages[number])
	case 6: // bytes turned
		b := w.m.Pages[number]
		b[r.Intn(len(b))]++
	case 7:
		w.m.Pair[r.Intn(len(w.m.Pair))]++
	case 8:
		b := w.m.Masters[r.Intn(2)]
		b[r.Intn(len(b))]++
	case 9:
		if len(w.m.Log) > 0 {
			w.m.Log[r.Intn(len(w.m.Log))]++
		}
	case 10: // a shorter log, or one with bytes behind
		w.m.Log = w.m.Log[:r.Intn(len(w.m.Log)+1)]
		more := make([]byte, r.Intn(20))
		w.m.Log = append(w.m.Log, more[:min(len(more), w.s.Log-len(w.m.Log))]...)
	default: // another log area, in which the restart's records just fit, or don't
		_, more := told(all)
		w.s.Log = min(65536, max(1024, len(w.m.Log), w.near(a+more)))
	}
}

// look at one image, with both managers, against what the chapter says of it.
func lookAt(t *testing.T, s api.Shape, m api.Image, v verdict, dice *rand.Rand) {
	t.Helper()
	whole, e := disk.Load(s, m)
	ok(t, "disk.Load", e)
	for _, manager := range []int{api.Aries, api.Choose} {
		d := whole.Copy()
		r, e := run(t, d, 2+dice.Intn(15), manager)
		if most := mostActs(len(m.Log), s.Pages); d.Acts() > most {
			t.Errorf("%d acts, at most %d", d.Acts(), most)
		}
		if v.refused != "" {
			if e != api.ErrCorrupt || !sameImage(d.Image(), m) || !sameImage(d.Lasts(), m) {
				t.Errorf("refused for its %s: %v, %d", v.refused, r, e)
			}
			continue
		}
		if e != api.OK || !sameButRedone(r, v.r) {
			t.Errorf("by %d: %v, %d, want %v, OK", manager, r, e, v.r)
			continue
		}
		left(t, d, v.named)
		secondLooksTheSame(t, d, v.named, 1+dice.Intn(2))
	}
}

// A second Run changes nothing but the turn, and copies a right pair's page to its place.
func secondLooksTheSame(t *testing.T, d *disk.Disk, named master.State, manager int) {
	t.Helper()
	was := d.Image()
	r, e := run(t, d, 2, manager)
	if named.Turn == top+1 {
		if e != api.ErrCorrupt || !sameImage(d.Image(), was) {
			t.Errorf("behind the last turn: %d", e)
		}
		return
	}
	named.Turn++
	if e != api.OK || !isEmpty(r) {
		t.Errorf("a second Run: %v, %d", r, e)
	}
	left(t, d, named)
	is := d.Image()
	was.Masters[named.Turn%2] = is.Masters[named.Turn%2]
	if number, _ := pairIn(d.Shape(), was); number >= 0 {
		was.Pages[number] = was.Pair[16:]
	}
	if !sameImage(is, was) {
		t.Errorf("a second Run: % x, was % x", is, was)
	}
}

// Images that runs leave, twisted: whatever they are, each is taken or refused as the chapter says.
func TestAnyImages(t *testing.T) { // P25.2, P25.3, P25.4
	count := map[string]int{}
	for seed := range int64(3000) {
		g := newOpen(t, 5000+seed)
		g.d.Stop(g.dice.Intn(60) * g.dice.Intn(2))
		g.run(40 + g.dice.Intn(60))
		m := g.d.Crash(g.choice()).Image()
		s := g.shape
		for range g.dice.Intn(4) {
			twist{g.dice, &s, &m}.any()
		}
		v := judge(s, m)
		lookAt(t, s, m, v, g.dice)
		count[v.refused]++
		if t.Failed() {
			t.Fatalf("seed %d: %v", seed, v)
		}
	}
	for _, why := range []string{"", "no master", "master", "page", "log", "ahead", "room"} {
		if count[why] < 20 {
			t.Errorf("only %d: %q", count[why], why)
		}
	}
}

// Bytes of any kind, none of which any run has laid.
func TestAnyBytes(t *testing.T) { // P25.2, P25.4
	dice := rand.New(rand.NewSource(1))
	for range 400 {
		s := api.Shape{Pages: 1 + dice.Intn(4), Slots: 1 + dice.Intn(2), Log: 1024}
		w := made(t, s)
		parts := [][]byte{w.m.Pair, w.m.Masters[0], w.m.Masters[1], make([]byte, dice.Intn(200))}
		parts = append(parts, w.m.Pages...)
		w.m.Log = parts[3]
		if dice.Intn(2) == 0 {
			w.says(master.State{Turn: 1 + dice.Intn(5), Base: dice.Intn(300)})
		}
		for range dice.Intn(3) {
			dice.Read(parts[dice.Intn(len(parts))])
		}
		lookAt(t, s, w.m, judge(s, w.m), dice)
	}
}

// Logs whose records are right, one by one, whatever they say together.
func TestAnyRecords(t *testing.T) { // P25.2, P25.3, P25.4
	taken, refused := 0, 0
	dice := rand.New(rand.NewSource(2))
	for i := range 3000 {
		s := api.Shape{Pages: 1 + dice.Intn(3), Slots: 1, Log: 1024 + dice.Intn(200)}
		w := named(t, s, dice.Intn(2)*dice.Intn(500))
		births := []int{}
		for range dice.Intn(12) {
			births = anyRecord(w, dice, births)
		}
		if len(w.m.Log) > s.Log {
			continue
		}
		for number := range s.Pages {
			if dice.Intn(2) == 0 {
				w.page(number, dice.Intn(w.next()), 16+dice.Intn(16), byte(dice.Intn(256)))
			}
		}
		v := judge(s, w.m)
		lookAt(t, s, w.m, v, dice)
		if v.refused == "" {
			taken++
		} else {
			refused++
		}
		if t.Failed() {
			t.Fatalf("image %d: %v", i, v)
		}
	}
	if taken < 500 || refused < 500 {
		t.Errorf("only %d taken, %d refused", taken, refused)
	}
}

func anyRecord(w *world, dice *rand.Rand, births []int) []int {
	if len(births) == 0 || dice.Intn(4) == 0 {
		return append(births, w.begin(1+dice.Intn(20)))
	}
	birth := births[dice.Intn(len(births))]
	number, from := dice.Intn(w.shape.Pages), 16+dice.Intn(10)
	switch dice.Intn(12) {
	case 0:
		w.commit(birth)
	case 1:
		w.abort(birth)
	case 2:
		w.end(birth)
	case 3:
		w.log(api.Record{Kind: api.KCheck, Dirty: []api.Rec{{Page: number, Lsn: w.next()}}})
	case 4:
		at := w.update(birth, number, from, 1+dice.Intn(5), 6)
		w.undo(birth, number, from, 3, dice.Intn(2)*at)
	default:
		w.update(birth, birth%w.shape.Pages, from, 1+dice.Intn(6), byte(1+dice.Intn(255)))
	}
	return births
}
