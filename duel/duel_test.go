package duel_test

import (
	"bytes"
	"math"
	"runtime"
	"slices"
	"sync"
	"testing"

	"tidemark/api"
	"tidemark/disk"
	"tidemark/duel"
	"tidemark/master"
	"tidemark/page"
)

// refused has Run answer an error, and nothing beside it.
func refused(t *testing.T, what string, s api.Shape, m api.Image, frames int, want api.Errno) {
	t.Helper()
	v, e := duel.Run(s, m, frames)
	if e != want || !sameVerdict(v, duel.Verdict{}) {
		t.Errorf("%s: %v, %d, want %d", what, v, e, want)
	}
}

func TestFrames(t *testing.T) { // P29.1: example 1; the edges
	for _, frames := range []int{math.MinInt, -1, 0, 1, 17, 18, math.MaxInt} {
		refused(t, "frames", small(), made(t, small()).m, frames, api.ErrFrames)
		refused(t, "frames", small(), example(t).m, frames, api.ErrFrames)
	}
	for frames := 2; frames <= 16; frames++ {
		w := example(t)
		if v, e := run(t, w.shape, w.m, frames); e != api.OK || !v.Same {
			t.Errorf("%d frames: %v, %d", frames, v, e)
		}
	}
}

func TestShapes(t *testing.T) { // P29.1: a shape that may not be is told ahead of all else
	for _, s := range []api.Shape{{}, {Pages: 0, Slots: 2, Log: 1024}, {Pages: 17, Slots: 2, Log: 1024}, {Pages: 2, Slots: 0, Log: 1024}, {Pages: 2, Slots: 9, Log: 1024}, {Pages: 2, Slots: 2, Log: 1023}, {Pages: 2, Slots: 2, Log: 65537}, {Pages: -1, Slots: -1, Log: -1}, {Pages: math.MaxInt, Slots: 2, Log: 1024}} {
		for _, frames := range []int{1, 2, 17} {
			refused(t, "a shape", s, made(t, small()).m, frames, api.ErrShape)
			refused(t, "a shape", s, api.Image{}, frames, api.ErrShape)
		}
	}
	for _, s := range []api.Shape{{Pages: 1, Slots: 1, Log: 1024}, {Pages: 16, Slots: 8, Log: 65536}, {Pages: 16, Slots: 1, Log: 1024}, {Pages: 1, Slots: 8, Log: 65536}} {
		if v, e := made(t, s).run(); e != api.OK || !v.Same {
			t.Errorf("%v: %v, %d", s, v, e)
		}
	}
}

func TestBytes(t *testing.T) { // P29.1: bytes that are not the shape's are told ahead of the frames, and of what they are
	for i, spoil := range []func(*api.Image){
		func(m *api.Image) { m.Pages = m.Pages[:1] },
		func(m *api.Image) { m.Pages = append(m.Pages, make([]byte, 56)) },
		func(m *api.Image) { m.Pages = nil },
		func(m *api.Image) { m.Pages[1] = m.Pages[1][:55] },
		func(m *api.Image) { m.Pages[0] = append(m.Pages[0], 0) },
		func(m *api.Image) { m.Pages[0] = nil },
		func(m *api.Image) { m.Pair = m.Pair[:71] },
		func(m *api.Image) { m.Pair = append(m.Pair, 0) },
		func(m *api.Image) { m.Pair = nil },
		func(m *api.Image) { m.Masters[0] = m.Masters[0][:39] },
		func(m *api.Image) { m.Masters[1] = append(m.Masters[1], 0) },
		func(m *api.Image) { m.Masters = [2][]byte{} },
		func(m *api.Image) { m.Log = make([]byte, 1025) },
		func(m *api.Image) { *m = api.Image{} },
	} {
		for _, frames := range []int{0, 1, 2, 17} {
			for _, w := range []*world{made(t, small()), example(t)} {
				w.m.Pages[0][20] = 1 // corrupt besides
				spoil(&w.m)
				if _, e := disk.Load(small(), w.m); e != api.ErrBytes {
					t.Fatalf("%d: Load: %d", i, e)
				}
				refused(t, "bytes", small(), w.m, frames, api.ErrBytes)
			}
		}
	}
}

func TestBlank(t *testing.T) { // P29.1, P29.2, P29.4: example 2
	v, e := made(t, small()).run()
	want := made(t, small())
	want.says(master.State{Turn: 1})
	if e != api.OK || !v.Same || !isEmpty(v.A) || !isEmpty(v.B) || !sameImage(v.Left, want.m) || !sameImage(v.Right, want.m) {
		t.Errorf("%v, %d", v, e)
	}
	again(t, small(), v)
}

func TestExample(t *testing.T) { // P29.1, P29.2, P29.4: example 3
	v, e := example(t).run()
	ok(t, "Run", e)
	if !v.Same || !sameReport(v.A, exampleReport(2)) || !sameReport(v.B, exampleReport(1)) {
		t.Errorf("%v", v)
	}
	if lsn, e := page.Check(v.Left.Pages[0], 0, 2); lsn != 198 || e != api.OK || !isZeros(v.Left.Pages[0][16:48]) {
		t.Errorf("Aries leaves % x", v.Left.Pages[0])
	}
	if !isZeros(v.Right.Pages[0]) {
		t.Errorf("Choose leaves % x", v.Right.Pages[0])
	}
	for _, m := range []api.Image{v.Left, v.Right} {
		if !bytes.Equal(m.Pages[1], sheet(1, 125, append([]byte{1}, make([]byte, 31)...))) {
			t.Errorf("page 1: % x", m.Pages[1])
		}
		if len(m.Log) != 0 || !bytes.Equal(m.Masters[0], masterOf(master.State{Turn: 2, Base: 318})) || !bytes.Equal(m.Masters[1], masterOf(master.State{Turn: 1})) {
			t.Errorf("the log % x, the masters % x", m.Log, m.Masters)
		}
	}
	again(t, small(), v)
}

func TestCorrupt(t *testing.T) { // P29.1, P29.4: example 4, and what else both refuse: each byte of each page and of the pair; a master; the log; the log first; the room
	for number := range 2 {
		for at := range 56 {
			w := made(t, small())
			w.m.Pages[number][at] = 1
			w.corrupt("a byte of a page")
		}
	}
	for at := range 72 {
		w := made(t, small())
		w.m.Pair[at] = 1
		w.corrupt("a byte of the pair, without a master")
	}
	w := made(t, small())
	w.m.Log = []byte{0}
	w.corrupt("a byte of log, without a master")
	w = made(t, small())
	w.says(master.State{Turn: top + 1})
	w.corrupt("the turn")
	named(t, small(), top+1).corrupt("the base")
	w = made(t, small())
	w.says(master.State{Turn: 1, Check: 500})
	w.corrupt("a checkpoint that isn't there")
	w = example(t)
	w.m.Pages[1] = bytes.Repeat([]byte{1}, 56)
	w.corrupt("a page")
	w = example(t)
	w.commit(91)
	w.corrupt("a second commit")
	w = example(t)
	w.page(0, 198, 16, 1)
	w.corrupt("a page that is ahead of the log")
	w = named(t, small(), 0)
	birth := w.begin(1)
	for len(w.m.Log)+80 < 1024 {
		w.update(birth, 0, 16, 20, 1)
	}
	w.corrupt("no room for what is to be undone")
}

func (w *world) corrupt(what string) {
	w.t.Helper()
	if v, e := w.run(); e != api.ErrCorrupt {
		w.t.Errorf("%s: %v, %d, want ErrCorrupt", what, v, e)
	}
	for _, frames := range []int{1, 17} {
		refused(w.t, what, w.shape, w.m, frames, api.ErrFrames)
	}
}

// No run leaves a page that has something else, ahead of a fresh loser's update, than that update was made over: Aries lays what was there then, Choose leaves the page.
func TestNotSame(t *testing.T) { // P29.2: each byte of each page's slots parts them
	s := api.Shape{Pages: 3, Slots: 2, Log: 1024}
	for number := range 3 {
		for at := 16; at < 48; at++ {
			w := named(t, s, 50)
			birth := w.begin(1)
			lsn := w.update(birth, number, 16, 32, 6)
			w.page(number, lsn-1, at, 9)
			v, e := w.run()
			ok(t, "Run", e)
			if v.Same || !sameButRedone(v.A, v.B) || v.A.Redone != 1 || v.B.Redone != 0 {
				t.Errorf("page %d, byte %d: %v", number, at, v)
			}
			if v.Left.Pages[number][at] != 0 || v.Right.Pages[number][at] != 9 {
				t.Errorf("page %d, byte %d: % x, % x", number, at, v.Left.Pages[number], v.Right.Pages[number])
			}
			again(t, s, v)
		}
	}
}

func TestSameThoughStampsPart(t *testing.T) { // P29.2: LSNs, sums and the pair are not compared, nor is Redone
	s := api.Shape{Pages: 3, Slots: 2, Log: 1024}
	for number := range 3 {
		for at := 16; at < 48; at++ {
			w := named(t, s, 50)
			birth := w.begin(1)
			from := 16
			if at == 16 {
				from = 17
			}
			lsn := w.update(birth, number, from, 1, 6)
			w.page(number, lsn-1, at, 9)
			v, e := w.run()
			ok(t, "Run", e)
			if !v.Same || v.A.Redone != 1 || v.B.Redone != 0 || bytes.Equal(v.Left.Pages[number], v.Right.Pages[number]) || bytes.Equal(v.Left.Pair, v.Right.Pair) {
				t.Errorf("page %d, byte %d: %v", number, at, v)
			}
			again(t, s, v)
		}
	}
}

func TestMostTurn(t *testing.T) { // P29.4: what a second Run tells, up to the last turn and base that may be
	for turn := top - 3; turn <= top+3; turn++ {
		w := made(t, small())
		w.says(master.State{Turn: turn})
		v, e := w.run()
		if (e == api.OK) != (turn <= top) {
			t.Errorf("turn %d: %d", turn, e)
		}
		if e == api.OK {
			again(t, small(), v)
		}
	}
	for more := range 3 { // a begin (34), a commit (33), and the end that is lacking (33)
		w := named(t, small(), top-100+more)
		w.commit(w.begin(3))
		v, e := w.run()
		if (e == api.OK) != (more == 0) {
			t.Errorf("%d bytes more: %d", more, e)
		}
		if e == api.OK {
			again(t, small(), v)
		}
	}
	for _, turn := range []int{1<<60 - 3, 1<<60 - 2, 1<<60 - 1, 1 << 60} {
		w := made(t, small())
		w.says(master.State{Turn: turn})
		w.corrupt("the last turns of all")
	}
}

func TestPair(t *testing.T) { // P29.1, P29.4: each manager copies a right pair's page, or clears a torn one, on its own disk
	older := sheet(0, 20, append([]byte{5}, make([]byte, 31)...))
	for n := range 73 {
		w := named(t, small(), 50)
		w.page(0, 40, 16, 7)
		w.m.Pair = append(bytes.Clone(pairOf(0, older)[:n]), make([]byte, 72-n)...)
		v, e := w.run()
		ok(t, "Run", e)
		want, pair := w.m.Pages[0], make([]byte, 72)
		if bytes.Equal(w.m.Pair, pairOf(0, older)) {
			want, pair = older, w.m.Pair
		}
		for _, m := range []api.Image{v.Left, v.Right} {
			if !bytes.Equal(m.Pages[0], want) || !bytes.Equal(m.Pair, pair) {
				t.Errorf("%d bytes of the pair: % x, % x", n, m.Pages[0], m.Pair)
			}
		}
		again(t, small(), v)
	}
}

// roomy has each list of an image stand in the midst of a greater one; what is ahead and behind is told, too.
func roomy(m api.Image) (api.Image, [][]byte, [][]byte) {
	var whole [][]byte
	within := func(b []byte) []byte {
		w := bytes.Repeat([]byte{77}, len(b)+20)
		copy(w[5:], b)
		whole = append(whole, w)
		return w[5 : 5+len(b) : 15+len(b)]
	}
	pages := make([][]byte, len(m.Pages)+3)
	for number, b := range m.Pages {
		pages[number] = within(b)
	}
	r := api.Image{Pages: pages[:len(m.Pages)], Pair: within(m.Pair), Log: within(m.Log)}
	for k, b := range m.Masters {
		r.Masters[k] = within(b)
	}
	return r, pages, whole
}

func TestImageStays(t *testing.T) { // P29.3: what is handed in, its spare room too
	torn := example(t)
	torn.m.Pair = pairOf(1, sheet(1, 125, append([]byte{1}, make([]byte, 31)...)))
	torn.m.Pages[1] = bytes.Repeat([]byte{3}, 56)
	torn.m.Log = append(torn.m.Log, 1, 2, 3)
	bad := example(t)
	bad.m.Pages[0][0] = 1
	for i, w := range []*world{made(t, small()), example(t), torn, bad} {
		m, pages, whole := roomy(w.m)
		var was [][]byte
		for _, b := range whole {
			was = append(was, bytes.Clone(b))
		}
		first := slices.Clone(pages)
		_, e := duel.Run(w.shape, m, 2)
		if (e == api.OK) != (w != bad) {
			t.Errorf("image %d: %d", i, e)
		}
		if !slices.EqualFunc(whole, was, bytes.Equal) {
			t.Errorf("image %d: its bytes have changed: % x, were % x", i, whole, was)
		}
		for number := range pages {
			if len(pages[number]) != len(first[number]) || len(first[number]) > 0 && &pages[number][0] != &first[number][0] {
				t.Errorf("image %d: its page %d is another list", i, number)
			}
		}
	}
}

// lists gives all lists of bytes of a verdict.
func lists(v duel.Verdict) (all [][]byte) {
	for _, m := range []api.Image{v.Left, v.Right} {
		all = append(all, m.Pages...)
		all = append(all, m.Pair, m.Log, m.Masters[0], m.Masters[1])
	}
	return all
}

// sheets is an image of which a Verdict has something in each list but the logs: several winners and losers, a pair.
func sheets(t *testing.T) *world {
	w := example(t)
	w.m.Pair = pairOf(1, sheet(1, 125, append([]byte{1}, make([]byte, 31)...)))
	for id := 3; id < 8; id++ {
		birth := w.begin(id)
		w.commit(birth)
		w.end(birth)
	}
	w.begin(8)
	w.begin(9)
	return w
}

func TestOwnMemory(t *testing.T) { // P29.3: the lists of an answer share memory neither with the image nor with each other
	w := sheets(t)
	v, e := duel.Run(w.shape, w.m, 2)
	ok(t, "Run", e)
	want, was := lists(v), cloneOf(w.m)
	for i := range want { // each is filled up to its room's end: all others stay
		x, e := duel.Run(w.shape, w.m, 2)
		ok(t, "Run", e)
		got := lists(x)
		fill(got[i][:cap(got[i])])
		for j := range got {
			if j != i && !bytes.Equal(got[j], want[j]) {
				t.Errorf("the lists %d and %d share memory", i, j)
			}
		}
		if !sameImage(w.m, was) {
			t.Errorf("list %d shares memory with the image", i)
		}
	}
	clear(v.Left.Pages[:cap(v.Left.Pages)])
	if !slices.EqualFunc(v.Right.Pages, want[6:8], bytes.Equal) || !sameImage(w.m, was) {
		t.Errorf("a list of pages shares memory with another")
	}
}

func TestOwnReports(t *testing.T) { // P29.3: so it is with the lists of the Reports
	w := sheets(t)
	births := func(v duel.Verdict) [][]int { return [][]int{v.A.Winners, v.A.Losers, v.B.Winners, v.B.Losers} }
	v, e := duel.Run(w.shape, w.m, 2)
	ok(t, "Run", e)
	want := births(v)
	for i := range want {
		x, e := duel.Run(w.shape, w.m, 2)
		ok(t, "Run", e)
		got := births(x)
		if len(got[i]) < 2 {
			t.Fatalf("list %d: %v", i, got[i])
		}
		for j := range cap(got[i]) {
			got[i][:cap(got[i])][j] = -1
		}
		for j := range got {
			if j != i && !slices.Equal(got[j], want[j]) {
				t.Errorf("the lists %d and %d share memory", i, j)
			}
		}
	}
}

func fill(b []byte) {
	for i := range b {
		b[i] = 99
	}
}

func TestNotKept(t *testing.T) { // P29.3: what is done to the image, or to a verdict, later on changes no other verdict
	w := sheets(t)
	m := cloneOf(w.m)
	v, e := duel.Run(w.shape, m, 2)
	ok(t, "Run", e)
	want, _ := oneByOne(t, w.shape, w.m, 2)
	for _, b := range append(slices.Clone(m.Pages), m.Pair, m.Log, m.Masters[0], m.Masters[1]) {
		fill(b)
	}
	clear(m.Pages)
	if !sameVerdict(v, want) {
		t.Errorf("the verdict has changed: %v", v)
	}
	for _, b := range lists(v) {
		fill(b)
	}
	v, e = duel.Run(w.shape, w.m, 2)
	if e != api.OK || !sameVerdict(v, want) {
		t.Errorf("the next verdict is another: %v, %d", v, e)
	}
}

func TestManyAtATime(t *testing.T) { // P29.1, P29.3: however the goroutines run, the answer is the same; all have ended
	w := sheets(t)
	want, _ := oneByOne(t, w.shape, w.m, 2)
	before := runtime.NumGoroutine()
	for _, width := range []int{1, 2, 8} {
		old := runtime.GOMAXPROCS(width)
		var all sync.WaitGroup
		var got [40]duel.Verdict
		for i := range got {
			all.Go(func() { got[i], _ = duel.Run(w.shape, w.m, 2) })
		}
		all.Wait()
		runtime.GOMAXPROCS(old)
		for i := range got {
			if !sameVerdict(got[i], want) {
				t.Errorf("width %d, run %d: %v", width, i, got[i])
			}
		}
	}
	for i := 0; runtime.NumGoroutine() > before && i < 100000; i++ {
		runtime.Gosched() // one that has told its end may have some steps left
	}
	if now := runtime.NumGoroutine(); now > before {
		t.Errorf("%d goroutines, were %d", now, before)
	}
}
