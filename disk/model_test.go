package disk_test

import (
	"bytes"
	"fmt"
	"math"
	"math/rand"
	"slices"
	"testing"

	"tidemark/api"
	"tidemark/disk"
)

// The model: a disk that keeps all writes it was ever given, and tells what is read or lasts from the first one on, each time anew.
type model struct {
	s      api.Shape
	first  api.Image // without its log
	writes []written
	log    []byte
	synced int
	acts   int
	stop   int // the number of the act that is not done; 0: none
	dead   bool
}

// written is a write: of the page so-and-so, of the pair (number -1), or of the master -2 or -3.
type written struct {
	at     int
	b      []byte
	synced bool
}

func spot(m api.Image, at int) []byte {
	switch at {
	case -1:
		return m.Pair
	case -2, -3:
		return m.Masters[-at-2]
	}
	return m.Pages[at]
}

func cloned(m api.Image) api.Image {
	c := api.Image{Pair: bytes.Clone(m.Pair), Log: bytes.Clone(m.Log), Masters: [2][]byte{bytes.Clone(m.Masters[0]), bytes.Clone(m.Masters[1])}}
	for _, p := range m.Pages {
		c.Pages = append(c.Pages, bytes.Clone(p))
	}
	return c
}

func (o *model) image() api.Image {
	m := cloned(o.first)
	for _, w := range o.writes {
		copy(spot(m, w.at), w.b)
	}
	m.Log = bytes.Clone(o.log)
	return m
}

func (o *model) lasts() api.Image {
	m := cloned(o.first)
	for _, w := range o.writes {
		if w.synced {
			copy(spot(m, w.at), w.b)
		}
	}
	m.Log = bytes.Clone(o.log[:o.synced])
	return m
}

func (o *model) crash(c api.Choice) *model {
	m := o.lasts()
	turn := 0
	for _, w := range o.writes {
		if w.synced {
			continue
		}
		k := 0
		if len(c.Keep) > 0 {
			k = c.Keep[turn%len(c.Keep)]
			turn++
		}
		if k == 1 {
			copy(spot(m, w.at), w.b)
		} else if k > 1 {
			copy(spot(m, w.at), w.b[:(k-1)%(len(w.b)+1)])
		}
	}
	loose := len(o.log) - o.synced + 1
	log := bytes.Clone(o.log[:o.synced+((c.Log%loose)+loose)%loose])
	return &model{s: o.s, first: m, log: log, synced: len(log)}
}

func (o *model) copied() *model {
	return &model{s: o.s, first: o.first, writes: slices.Clone(o.writes), log: bytes.Clone(o.log), synced: o.synced}
}

// alive counts an act.
func (o *model) alive() bool {
	if o.dead || o.stop == o.acts+1 {
		o.dead = true
		return false
	}
	o.acts++
	return true
}

func (o *model) readSpot(at int, there bool) ([]byte, api.Errno) {
	if !o.alive() {
		return nil, api.ErrDead
	}
	if !there {
		return nil, api.ErrPlace
	}
	return bytes.Clone(spot(o.image(), at)), api.OK
}

func (o *model) writeSpot(at int, there bool, b []byte) api.Errno {
	if !o.alive() {
		return api.ErrDead
	}
	if !there {
		return api.ErrPlace
	}
	if len(spot(o.first, at)) != len(b) {
		return api.ErrBytes
	}
	o.writes = append(o.writes, written{at: at, b: bytes.Clone(b)})
	return api.OK
}

func (o *model) syncSpots(masters bool) api.Errno {
	if !o.alive() {
		return api.ErrDead
	}
	for i, w := range o.writes {
		if (w.at <= -2) == masters {
			o.writes[i].synced = true
		}
	}
	return api.OK
}

func (o *model) readLog(from, n int) ([]byte, api.Errno) {
	if !o.alive() {
		return nil, api.ErrDead
	}
	if from < 0 || n < 0 || from > len(o.log) {
		return nil, api.ErrPlace
	}
	var out []byte
	for i := from; i < len(o.log) && len(out) < n; i++ {
		out = append(out, o.log[i])
	}
	return out, api.OK
}

func (o *model) appendLog(b []byte) api.Errno {
	if !o.alive() {
		return api.ErrDead
	}
	if len(o.log)+len(b) > o.s.Log {
		return api.ErrRoom
	}
	o.log = append(o.log, b...)
	return api.OK
}

func (o *model) syncLog() api.Errno {
	if !o.alive() {
		return api.ErrDead
	}
	o.synced = len(o.log)
	return api.OK
}

func (o *model) cut(n int) api.Errno {
	if !o.alive() {
		return api.ErrDead
	}
	if n < 0 || n > len(o.log) {
		return api.ErrPlace
	}
	o.log = o.log[:n]
	if o.synced > n {
		o.synced = n
	}
	return api.OK
}

// both is a disk and its model, to which the same is done.
type both struct {
	d *disk.Disk
	o *model
	r *rand.Rand
}

func (x both) look(t *testing.T, what string) {
	t.Helper()
	if x.d.Acts() != x.o.acts || x.d.Dead() != x.o.dead || x.d.LogLen() != len(x.o.log) || x.d.Shape() != x.o.s {
		t.Fatalf("%s: %d acts, dead %v, %d bytes of the log; want %d, %v, %d", what, x.d.Acts(), x.d.Dead(), x.d.LogLen(), x.o.acts, x.o.dead, len(x.o.log))
	}
	wantImage(t, what+": read", x.d.Image(), x.o.image())
	wantImage(t, what+": lasts", x.d.Lasts(), x.o.lasts())
	if t.Failed() {
		t.FailNow()
	}
}

// some gives n bytes, now and then one more or fewer.
func (x both) some(n int) []byte {
	if x.r.Intn(12) == 0 {
		n = max(n+x.r.Intn(3)-1, 0)
	}
	b := make([]byte, n)
	x.r.Read(b)
	return b
}

// number gives one from -1 to n, the edges too seldom to matter.
func (x both) number(n int) int {
	switch x.r.Intn(20) {
	case 0:
		return -1
	case 1:
		return n
	}
	return x.r.Intn(n)
}

func (x both) choice() api.Choice {
	c := api.Choice{Log: x.r.Intn(200) - 100}
	for range x.r.Intn(6) {
		c.Keep = append(c.Keep, []int{0, 1, 1, x.r.Intn(300) - 20, x.r.Int()}[x.r.Intn(5)])
	}
	return c
}

func (x both) wantSame(t *testing.T, what string, got []byte, e api.Errno) func(want []byte, f api.Errno) {
	t.Helper()
	return func(want []byte, f api.Errno) {
		t.Helper()
		wantErrno(t, what, e, f)
		wantBytes(t, what, got, want)
		scribble(got)
	}
}

func (x both) readSomething(t *testing.T) string {
	switch x.r.Intn(4) {
	case 0:
		p := x.number(x.o.s.Pages)
		b, e := x.d.ReadPage(p)
		x.wantSame(t, "ReadPage", b, e)(x.o.readSpot(p, p >= 0 && p < x.o.s.Pages))
		return "ReadPage"
	case 1:
		b, e := x.d.ReadPair()
		x.wantSame(t, "ReadPair", b, e)(x.o.readSpot(-1, true))
		return "ReadPair"
	case 2:
		k := x.number(2)
		b, e := x.d.ReadMaster(k)
		x.wantSame(t, "ReadMaster", b, e)(x.o.readSpot(-2-k, k == 0 || k == 1))
		return "ReadMaster"
	}
	from, n := x.number(len(x.o.log)+2), x.r.Intn(40)-1
	b, e := x.d.ReadLog(from, n)
	x.wantSame(t, "ReadLog", b, e)(x.o.readLog(from, n))
	return "ReadLog"
}

func (x both) writeSomething(t *testing.T) string {
	n := 24 + 16*x.o.s.Slots
	switch x.r.Intn(5) {
	case 0:
		p, b := x.number(x.o.s.Pages), x.some(n)
		wantErrno(t, "WritePage", x.d.WritePage(p, b), x.o.writeSpot(p, p >= 0 && p < x.o.s.Pages, b))
		scribble(b)
		return "WritePage"
	case 1:
		b := x.some(16 + n)
		wantErrno(t, "WritePair", x.d.WritePair(b), x.o.writeSpot(-1, true, b))
		scribble(b)
		return "WritePair"
	case 2:
		k, b := x.number(2), x.some(40)
		wantErrno(t, "WriteMaster", x.d.WriteMaster(k, b), x.o.writeSpot(-2-k, k == 0 || k == 1, b))
		scribble(b)
		return "WriteMaster"
	case 3:
		k := x.number(len(x.o.log) + 1)
		if x.r.Intn(3) > 0 {
			k = len(x.o.log) - x.r.Intn(9)
		}
		wantErrno(t, "Cut", x.d.Cut(k), x.o.cut(k))
		return "Cut"
	}
	b := x.some(x.r.Intn(300))
	wantErrno(t, "Append", x.d.Append(b), x.o.appendLog(b))
	scribble(b)
	return "Append"
}

func (x both) syncSomething(t *testing.T) string {
	switch x.r.Intn(3) {
	case 0:
		wantErrno(t, "Sync", x.d.Sync(), x.o.syncSpots(false))
		return "Sync"
	case 1:
		wantErrno(t, "SyncMasters", x.d.SyncMasters(), x.o.syncSpots(true))
		return "SyncMasters"
	}
	wantErrno(t, "SyncLog", x.d.SyncLog(), x.o.syncLog())
	return "SyncLog"
}

func (x both) stopSomewhere() string {
	n := x.r.Intn(40) - 3
	x.d.Stop(n)
	if !x.o.dead {
		x.o.stop = 0
		if n > 0 {
			x.o.stop = x.o.acts + n
		}
	}
	return fmt.Sprintf("Stop(%d)", n)
}

func (x both) crashed(t *testing.T) both {
	c := x.choice()
	x.wantKept(t)
	y := both{x.d.Crash(c), x.o.crash(c), x.r}
	y.look(t, fmt.Sprintf("Crash(%v)", c))
	return y
}

// wantKept looks at what P6.8 says of the two choices.
func (x both) wantKept(t *testing.T) {
	t.Helper()
	wantImage(t, "all kept", x.d.Crash(allKept).Lasts(), x.o.image())
	wantImage(t, "none kept", x.d.Crash(noneKept).Lasts(), x.o.lasts())
}

func TestRuns(t *testing.T) { // P6.1 to P6.8
	for seed := range int64(60) {
		r := rand.New(rand.NewSource(seed))
		s := api.Shape{Pages: 1 + r.Intn(16), Slots: 1 + r.Intn(8), Log: 1024 + r.Intn(1000)}
		m := marks(s, r.Intn(50))
		x := both{loaded(t, s, m), &model{s: s, first: m, log: bytes.Clone(m.Log), synced: len(m.Log)}, r}
		var others []both
		for range 400 {
			what := ""
			switch n := r.Intn(40); {
			case n < 9:
				what = x.readSomething(t)
			case n < 30:
				what = x.writeSomething(t)
			case n < 34:
				what = x.syncSomething(t)
			case n < 36:
				what = x.stopSomewhere()
			case n < 38:
				others = append(others, x)
				what, x = "Copy", both{x.d.Copy(), x.o.copied(), r}
			default:
				others = append(others, x)
				what, x = "Crash", x.crashed(t)
			}
			x.look(t, what)
		}
		for _, o := range others {
			o.look(t, "a disk that was left")
			o.wantKept(t)
		}
	}
}

func TestTheModelAtTheEndsOfInt(t *testing.T) { // P6.6
	r := rand.New(rand.NewSource(7))
	x := both{made(t, small), &model{s: small, first: zeros(small)}, r}
	for range 30 {
		x.writeSomething(t)
	}
	for _, n := range []int{math.MinInt, math.MinInt + 1, math.MaxInt, math.MaxInt - 1} {
		c := api.Choice{Log: n, Keep: []int{n, 1, -n, n - 1, n / 3}}
		both{x.d.Crash(c), x.o.crash(c), r}.look(t, fmt.Sprintf("Crash(%v)", c))
	}
}
