package sound_test

import (
	"bytes"
	"encoding/binary"
	"math/rand"
	"testing"

	"tidemark/api"
	"tidemark/disk"
	"tidemark/engine"
	"tidemark/look"
	"tidemark/master"
	"tidemark/scan"
)

// judge tells the first rule that an image breaks which Load takes, by the chapter's words.
func judge(s api.Shape, m api.Image) int {
	state, there := newestIn(m)
	if !there && !isNew(m) {
		return 2
	}
	if state.Turn > top || state.Base > top {
		return 3
	}
	inPair, greatest := pairIn(s, m)
	for number, b := range m.Pages {
		if isRight(b, number) {
			greatest = max(greatest, lsnOf(b))
		} else if number != inPair {
			return 4
		}
	}
	if _, e := look.Analyse(m.Log, state.Base, state.Check, s.Pages, s.Slots); e != api.OK {
		return 5
	}
	all, a := scan.All(m.Log, state.Base)
	if greatest >= state.Base+1+a {
		return 6
	}
	if n := a + appended(all); n > s.Log || state.Base+n > top {
		return 7
	}
	return 0
}

func newestIn(m api.Image) (newest master.State, there bool) {
	for k, b := range m.Masters {
		s := master.State{Turn: lsnOf(b), Base: lsnOf(b[8:]), Check: lsnOf(b[16:])}
		isRight := bytes.Equal(b, masterOf(s)) && s.Turn > 0 && s.Turn <= 1<<60 && s.Turn%2 == k && s.Base >= 0 && s.Base <= 1<<60 && s.Check >= 0 && s.Check <= 1<<60
		if isRight && s.Turn > newest.Turn {
			newest, there = s, true
		}
	}
	return newest, there
}

func isNew(m api.Image) bool {
	for _, b := range m.Pages {
		if !isZeros(b) {
			return false
		}
	}
	return isZeros(m.Pair) && len(m.Log) == 0
}

func pairIn(s api.Shape, m api.Image) (number, lsn int) {
	lsn = lsnOf(m.Pair)
	number = int(binary.LittleEndian.Uint32(m.Pair[8:]))
	b := m.Pair[16:]
	if number < s.Pages && lsn > 0 && isRight(b, number) && lsnOf(b) == lsn {
		return number, lsn
	}
	return -1, 0
}

// appended tells how many bytes a restart would append to records that are right together.
func appended(all []scan.Found) int {
	state, left := map[int]int{}, map[int]int{}
	for _, f := range all {
		switch f.R.Kind {
		case api.KBegin:
			state[f.Lsn] = 33
		case api.KUpdate:
			left[f.R.Birth] += 46 + len(f.R.Before)
		case api.KUndo:
			left[f.R.Birth] -= 46 + len(f.R.After)
		case api.KCommit:
			left[f.R.Birth] = 0
		case api.KEnd:
			delete(state, f.R.Birth)
			delete(left, f.R.Birth)
		}
	}
	n := 0
	for birth, end := range state {
		n += end + left[birth]
	}
	return n
}

// life is an engine on a disk, used till the disk dies.
type life struct {
	t    *testing.T
	dice *rand.Rand
	c    api.Config
	e    *engine.Engine
	d    *disk.Disk
}

func born(t *testing.T, seed int64) *life {
	t.Helper()
	r := rand.New(rand.NewSource(seed))
	c := api.Config{Shape: shapeOf(1+r.Intn(6), 1+r.Intn(3), 1024+r.Intn(3000)), Frames: 2 + r.Intn(3), Table: 1 + r.Intn(8), Keys: 40}
	e, f := engine.Create(c)
	ok(t, "Create", f)
	return &life{t: t, dice: r, c: c, e: e, d: e.Disk()}
}

// step does one call, whatever it answers.
func (l *life) step() {
	r := l.dice
	id, key, pick := 1+r.Intn(l.c.Table), r.Intn(l.c.Keys), r.Intn(9)
	switch k := r.Intn(40); {
	case k < 8:
		l.e.Begin(id)
	case k < 22:
		l.e.Put(id, key, r.Uint64()>>r.Intn(60), pick)
	case k < 26:
		l.e.Delete(id, key, pick)
	case k < 30:
		l.e.Clean(r.Intn(l.c.Shape.Pages))
	case k < 34:
		l.e.Commit(id)
	case k < 37:
		l.e.Abort(id, pick)
	case k < 39:
		l.e.Checkpoint()
	default:
		l.e.Renew()
	}
}

func (l *life) goOn(calls int) {
	for i := 0; i < calls && !l.d.Dead(); i++ {
		l.step()
	}
}

// choice is what a crash may leave.
func (l *life) choice() api.Choice {
	r := l.dice
	log := []int{0, -1, r.Intn(60), r.Intn(1000)}[r.Intn(4)]
	keep := [][]int{nil, {1}, {0, 1}, {1, 0}, {r.Intn(150), r.Intn(150)}, {r.Intn(80)}}[r.Intn(6)]
	return api.Choice{Log: log, Keep: keep}
}

func (l *life) manager() int { return []int{api.Aries, api.Choose}[l.dice.Intn(2)] }

// sound has Check find nothing in what is read of a disk, nor in what lasts on it.
func (l *life) sound(what string, d *disk.Disk) {
	l.t.Helper()
	for _, m := range []api.Image{d.Image(), d.Lasts()} {
		if got := check(l.t, l.c.Shape, m); got != 0 {
			l.t.Errorf("%s: an image of a run breaks rule %d", what, got)
		}
		managed(l.t, what, l.c.Shape, m, 0, l.manager(), 2+l.dice.Intn(15))
	}
}

// Of every image that a run reaches no rule is broken: in the midst of it, behind a crash, behind a restart that was cut.
func TestRuns(t *testing.T) { // P27.3
	logs, cuts, torn := 0, 0, 0
	for seed := range int64(250) {
		l := born(t, seed)
		for range 6 {
			l.d.Stop(l.dice.Intn(70))
			l.goOn(l.dice.Intn(80))
			l.d.Stop(0)
			for {
				d := l.d.Crash(l.choice())
				l.sound("behind a crash", d)
				logs, torn = logs+min(1, d.LogLen()), torn+tears(d.Image())
				d.Stop(l.dice.Intn(60))
				e, _, f := engine.Open(d, l.c, l.manager())
				l.d = d
				if f == api.OK {
					d.Stop(0)
					l.e = e
					l.sound("behind a restart", d)
					break
				}
				if f != api.ErrDead {
					t.Fatalf("seed %d: Open: %d", seed, f)
				}
				cuts++
			}
			if t.Failed() {
				t.Fatalf("seed %d", seed)
			}
		}
	}
	if logs < 800 || cuts < 400 || torn < 40 {
		t.Errorf("only %d images with a log, %d restarts cut, %d tears", logs, cuts, torn)
	}
}

// tears counts the pages, and the pair, that are not right.
func tears(m api.Image) int {
	n := 0
	for number, b := range m.Pages {
		if !isRight(b, number) {
			n++
		}
	}
	if !isZeros(m.Pair) && !isRight(m.Pair[16:], int(m.Pair[8])) {
		n++
	}
	return n
}

// A run that is cut at each act leaves, whatever a crash keeps, an image that breaks no rule.
func TestRunsCutAtEachAct(t *testing.T) { // P27.3
	images := 0
	for seed := range int64(12) {
		for stop := 1; ; stop++ {
			l := born(t, 1000+seed)
			l.d.Stop(stop)
			l.goOn(70)
			if !l.d.Dead() {
				break
			}
			for _, c := range []api.Choice{{}, {Log: -1, Keep: []int{1}}, l.choice(), l.choice()} {
				l.sound("cut", l.d.Crash(c))
				images++
			}
			if t.Failed() {
				t.Fatalf("seed %d, stop %d", seed, stop)
			}
		}
	}
	if images < 1500 {
		t.Errorf("only %d images", images)
	}
}

// The making of a disk is cut at each act, and each byte of the first master may be the last that is kept.
func TestFirstMasterTorn(t *testing.T) { // P27.1, P27.3: a new disk, whatever a cut has left in its masters
	s := small()
	d, e := disk.New(s)
	ok(t, "New", e)
	ok(t, "WriteMaster", d.WriteMaster(1, masterOf(master.State{Turn: 1})))
	for keep := range 43 {
		w := blank(t, s)
		w.m = d.Crash(api.Choice{Keep: []int{keep}}).Image()
		w.breaks("a torn first master", 0)
	}
}

// twist has an image be another than what a run has left.
type twist struct {
	dice *rand.Rand
	s    *api.Shape
	m    *api.Image
}

// near gives a number at a place that counts, or beside it.
func (w twist) near(at int) int { return max(0, at-2+w.dice.Intn(5)) }

func (w twist) any() {
	r := w.dice
	state, _ := newestIn(*w.m)
	all, a := scan.All(w.m.Log, state.Base)
	end := state.Base + 1 + a
	number := r.Intn(w.s.Pages)
	slots := make([]byte, 16*w.s.Slots)
	r.Read(slots)
	switch r.Intn(14) {
	case 0: // another master
		places := []int{0, state.Base, top, end - 1, 1 << 60}
		w.says(master.State{Turn: 1 + w.near(state.Turn), Base: w.near(places[r.Intn(5)]), Check: state.Check})
	case 1:
		w.says(master.State{Turn: []int{top - 1, top, top + 1, 1 << 60}[r.Intn(4)], Base: state.Base, Check: state.Check})
	case 2: // another checkpoint
		at := w.near(end)
		if len(all) > 0 {
			at = all[r.Intn(len(all))].Lsn
		}
		w.says(master.State{Turn: 1 + state.Turn, Base: state.Base, Check: at})
	case 3: // a page ahead of the log, or not
		w.m.Pages[number] = sheet(number, w.near(end), slots)
	case 4:
		w.m.Pair = pairOf(number, sheet(number, w.near(end), slots))
	case 5:
		w.m.Pair = pairOf(number, w.m.Pages[number])
	case 6: // bytes turned
		turn(r, w.m.Pages[number])
	case 7:
		turn(r, w.m.Pair)
	case 8:
		turn(r, w.m.Masters[r.Intn(2)])
	case 9:
		turn(r, w.m.Log)
	case 10: // a shorter log, or one with bytes behind
		w.m.Log = w.m.Log[:r.Intn(len(w.m.Log)+1)]
		more := make([]byte, r.Intn(20))
		w.m.Log = append(w.m.Log, more[:min(len(more), w.s.Log-len(w.m.Log))]...)
	default: // another log area, in which the restart's records just fit, or don't
		w.s.Log = min(65536, max(1024, len(w.m.Log), w.near(a+appended(all))))
	}
}

func (w twist) says(s master.State) { w.m.Masters[s.Turn%2] = masterOf(s) }

// turn has one byte be another, if there is one.
func turn(r *rand.Rand, b []byte) {
	if len(b) > 0 {
		b[r.Intn(len(b))] += byte(1 + r.Intn(255))
	}
}

// lookAt looks at one image: Check, and both managers.
func lookAt(t *testing.T, s api.Shape, m api.Image, dice *rand.Rand) int {
	t.Helper()
	want := judge(s, m)
	if got := check(t, s, m); got != want {
		t.Errorf("%d, want %d", got, want)
	}
	for _, manager := range []int{api.Aries, api.Choose} {
		managed(t, "a twisted image", s, m, want, manager, 2+dice.Intn(15))
	}
	return want
}

// Images that runs leave, twisted.
func TestTwistedImages(t *testing.T) { // P27.1, P27.3
	var count [8]int
	for seed := range int64(4000) {
		l := born(t, 5000+seed)
		l.d.Stop(l.dice.Intn(60) * l.dice.Intn(2))
		l.goOn(40 + l.dice.Intn(60))
		m, s := l.d.Crash(l.choice()).Image(), l.c.Shape
		for range l.dice.Intn(4) {
			twist{l.dice, &s, &m}.any()
		}
		count[lookAt(t, s, m, l.dice)]++
		if t.Failed() {
			t.Fatalf("seed %d", seed)
		}
	}
	for rule, n := range count {
		if n < 20 && rule != 1 {
			t.Errorf("only %d break rule %d", n, rule)
		}
	}
}

// Bytes of any kind, none of which any run has laid.
func TestAnyBytes(t *testing.T) { // P27.1, P27.3
	dice := rand.New(rand.NewSource(1))
	var count [8]int
	for range 600 {
		s := shapeOf(1+dice.Intn(4), 1+dice.Intn(2), 1024)
		w := blank(t, s)
		w.m.Log = make([]byte, dice.Intn(2)*dice.Intn(200))
		parts := append([][]byte{w.m.Pair, w.m.Masters[0], w.m.Masters[1], w.m.Log}, w.m.Pages...)
		if dice.Intn(2) == 0 {
			w.says(master.State{Turn: 1 + dice.Intn(5), Base: dice.Intn(300)})
		}
		for range dice.Intn(3) {
			dice.Read(parts[dice.Intn(len(parts))])
		}
		count[lookAt(t, s, w.m, dice)]++
	}
	if count[0] < 50 || count[2] < 50 || count[4] < 50 {
		t.Errorf("only %v", count)
	}
}

// Logs whose records are right, one by one, whatever they say together.
func TestAnyRecords(t *testing.T) { // P27.1, P27.3
	var count [8]int
	dice := rand.New(rand.NewSource(2))
	for range 3000 {
		s := shapeOf(1+dice.Intn(3), 1, 1024+dice.Intn(200))
		w := named(t, s, dice.Intn(2)*dice.Intn(500))
		var births []int
		for range dice.Intn(14) {
			births = anyRecord(w, dice, births)
		}
		if len(w.m.Log) > s.Log {
			continue
		}
		for number := range s.Pages {
			if dice.Intn(2) == 0 {
				w.page(number, dice.Intn(w.next()+dice.Intn(3)), byte(dice.Intn(256)))
			}
		}
		count[lookAt(t, s, w.m, dice)]++
	}
	if count[0] < 500 || count[5] < 500 {
		t.Errorf("only %v", count)
	}
}

func anyRecord(w *world, dice *rand.Rand, births []int) []int {
	if len(births) == 0 || dice.Intn(4) == 0 {
		return append(births, w.begin(1+dice.Intn(20)))
	}
	birth := births[dice.Intn(len(births))]
	number, from := dice.Intn(w.shape.Pages), 16+dice.Intn(10)
	switch dice.Intn(12) {
	case 0:
		w.commit(birth)
	case 1:
		w.abort(birth)
	case 2:
		w.end(birth)
	case 3:
		w.log(api.Record{Kind: api.KCheck, Dirty: []api.Rec{{Page: number, Lsn: w.next()}}})
	case 4:
		at := w.update(birth, number, from, 1+dice.Intn(5), 6)
		w.undo(birth, number, from, 3, dice.Intn(2)*at)
	default:
		w.update(birth, birth%w.shape.Pages, from, 1+dice.Intn(6), byte(1+dice.Intn(255)))
	}
	return births
}

// anew lays other bytes where Check does not look, or tells that there is no such place in an image.
type anew func(r *rand.Rand, s api.Shape, m *api.Image) bool

// isNewDisk tells whether an image is a new disk's.
func isNewDisk(m api.Image) bool {
	_, there := newestIn(m)
	return !there && isNew(m)
}

// behindAnew lays other bytes behind the log's beginning.
func behindAnew(r *rand.Rand, s api.Shape, m *api.Image) bool {
	state, _ := newestIn(*m)
	was := *m
	_, a := scan.All(m.Log, state.Base)
	more := make([]byte, []int{0, r.Intn(50), s.Log - a}[r.Intn(3)])
	r.Read(more)
	m.Log = append(bytes.Clone(m.Log[:a]), more...)
	_, now := scan.All(m.Log, state.Base)
	return len(m.Log) <= s.Log && now == a && !isNewDisk(was) && !isNewDisk(*m)
}

// slotsAnew lays other slots into a right page.
func slotsAnew(r *rand.Rand, s api.Shape, m *api.Image) bool {
	was := *m
	number := r.Intn(s.Pages)
	b := m.Pages[number]
	slots := make([]byte, 16*s.Slots)
	r.Read(slots)
	m.Pages = append([][]byte{}, m.Pages...)
	m.Pages[number] = sheet(number, lsnOf(b), slots)
	return isRight(b, number) && !isNewDisk(was)
}

// masterAnew lays other bytes into a master that is not right.
func masterAnew(r *rand.Rand, s api.Shape, m *api.Image) bool {
	k := r.Intn(2)
	alone := *m
	alone.Masters[1-k] = make([]byte, 40)
	_, is := newestIn(alone)
	other := *m
	other.Masters[k] = make([]byte, 40)
	_, otherIs := newestIn(other)
	b := make([]byte, 40)
	r.Read(b)
	if r.Intn(2) == 0 { // right, but in the other's place
		b = masterOf(master.State{Turn: 1 - k + 2*r.Intn(5) + 2*k, Base: r.Intn(1000)})
	}
	m.Masters[k] = b
	return !is && (otherIs || isNewDisk(other))
}

// What the chapter says is not looked at may be any bytes.
func TestWhatIsNotLookedAt(t *testing.T) { // P27.3
	for what, lay := range map[string]anew{"behind the log's beginning": behindAnew, "a page's slots": slotsAnew, "a master that is not right": masterAnew} {
		var count [8]int
		for seed := range int64(1500) {
			l := born(t, 20000+seed)
			l.d.Stop(l.dice.Intn(60) * l.dice.Intn(2))
			l.goOn(l.dice.Intn(80))
			m, s := l.d.Crash(l.choice()).Image(), l.c.Shape
			for range l.dice.Intn(3) {
				twist{l.dice, &s, &m}.any()
			}
			if l.dice.Intn(3) == 0 { // neither may be right
				m.Masters[l.dice.Intn(2)] = make([]byte, 40)
			}
			if l.dice.Intn(20) == 0 {
				m = blank(t, s).m
			}
			want := check(t, s, m)
			if !lay(l.dice, s, &m) {
				continue
			}
			if got := check(t, s, m); got != want {
				t.Fatalf("%s, seed %d: rule %d, and with other bytes %d", what, seed, want, got)
			}
			count[want]++
		}
		for _, rule := range []int{0, 4, 5, 6} {
			if count[rule] < 8 {
				t.Errorf("%s: only %v", what, count)
			}
		}
	}
}

// Each byte behind the beginning of the example's log, one by one.
func TestEachByteBehind(t *testing.T) { // P27.3: what is behind hangs on nothing, even where it was a frame once
	w := example(t)
	a := len(w.m.Log)
	w.commit(91) // that would be refused
	w.breaks("a further frame", 5)
	for i := a; i < len(w.m.Log); i++ {
		w.m.Log[i]++
		w.breaks("no further frame", 0)
		w.m.Log[i]--
		b := w.m.Log
		w.m.Log = b[:i]
		w.breaks("a frame that is cut", 0)
		w.m.Log = b
	}
}

// A page's slots may be what no engine lays.
func TestAnySlots(t *testing.T) { // P27.3
	for _, x := range []byte{0, 1, 2, 255} {
		w := example(t)
		w.page(0, 100, x)
		w.inPair(1, 100, x)
		w.breaks("slots of one byte", 0)
	}
}
