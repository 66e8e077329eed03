package disk_test

import (
	"bytes"
	"fmt"
	"math"
	"testing"

	"tidemark/api"
	"tidemark/disk"
)

// small is the shape of most disks here: pages of 40 bytes, a pair of 56.
var small = api.Shape{Pages: 2, Slots: 1, Log: 1024}

// allKept and noneKept are the choices of P6.8.
var (
	allKept  = api.Choice{Log: -1, Keep: []int{1}}
	noneKept = api.Choice{}
)

func made(t *testing.T, s api.Shape) *disk.Disk {
	t.Helper()
	d, e := disk.New(s)
	if d == nil || e != api.OK {
		t.Fatalf("New(%v): %d", s, e)
	}
	return d
}

func loaded(t *testing.T, s api.Shape, m api.Image) *disk.Disk {
	t.Helper()
	d, e := disk.Load(s, m)
	if d == nil || e != api.OK {
		t.Fatalf("Load(%v): %d", s, e)
	}
	return d
}

// a gives a page of the small shape, full of x.
func a(x byte) []byte { return full(40, x) }

func full(n int, x byte) []byte { return bytes.Repeat([]byte{x}, n) }

// torn gives n bytes, the first so many of them x, the others y.
func torn(n, first int, x, y byte) []byte { return append(full(first, x), full(n-first, y)...) }

// zeros gives the image of a new disk, laid out by hand.
func zeros(s api.Shape) api.Image {
	n := 24 + 16*s.Slots
	m := api.Image{Pair: make([]byte, 16+n), Masters: [2][]byte{make([]byte, 40), make([]byte, 40)}}
	for range s.Pages {
		m.Pages = append(m.Pages, make([]byte, n))
	}
	return m
}

// marks gives an image of that shape no two bytes of which are likely to be mistaken for one another.
func marks(s api.Shape, log int) api.Image {
	m := zeros(s)
	m.Log = make([]byte, log)
	x := 0
	for _, b := range parts(m) {
		for i := range b {
			x += 7
			b[i] = byte(x + x>>8)
		}
	}
	return m
}

// parts gives all lists of bytes of an image.
func parts(m api.Image) [][]byte {
	var out [][]byte
	out = append(out, m.Pages...)
	return append(out, m.Pair, m.Log, m.Masters[0], m.Masters[1])
}

func same(a, b api.Image) bool {
	x, y := parts(a), parts(b)
	if len(x) != len(y) {
		return false
	}
	for i := range x {
		if !bytes.Equal(x[i], y[i]) {
			return false
		}
	}
	return true
}

func wantImage(t *testing.T, what string, got, want api.Image) {
	t.Helper()
	if !same(got, want) {
		t.Errorf("%s: %x, want %x", what, got, want)
	}
}

func wantBytes(t *testing.T, what string, got, want []byte) {
	t.Helper()
	if !bytes.Equal(got, want) {
		t.Errorf("%s: % x, want % x", what, got, want)
	}
}

func wantErrno(t *testing.T, what string, got, want api.Errno) {
	t.Helper()
	if got != want {
		t.Errorf("%s: error %d, want %d", what, got, want)
	}
}

// wantRead looks at what a read answered, and then writes over it, so that it is found out if it shares memory.
func wantRead(t *testing.T, what string, got []byte, e api.Errno, want []byte) {
	t.Helper()
	wantErrno(t, what, e, api.OK)
	wantBytes(t, what, got, want)
	scribble(got)
}

func wantRefused(t *testing.T, what string, got []byte, e, want api.Errno) {
	t.Helper()
	wantErrno(t, what, e, want)
	if len(got) != 0 {
		t.Errorf("%s: % x beside an error", what, got)
	}
}

// wantFresh looks that a disk is as one that was just given: not dead, no acts, nothing stopped.
func wantFresh(t *testing.T, what string, d *disk.Disk) {
	t.Helper()
	if d.Dead() || d.Acts() != 0 {
		t.Errorf("%s: dead %v, %d acts, want false, 0", what, d.Dead(), d.Acts())
	}
	c := d.Copy()
	for range 20 {
		wantErrno(t, what+": is stopped", c.Sync(), api.OK)
	}
}

// wantAllLasts looks that nothing is loose: what is read lasts, and no choice of a crash leaves anything else.
func wantAllLasts(t *testing.T, what string, d *disk.Disk, want api.Image) {
	t.Helper()
	wantImage(t, what+": read", d.Image(), want)
	wantImage(t, what+": lasts", d.Lasts(), want)
	for _, c := range []api.Choice{noneKept, allKept, {Log: 1, Keep: []int{0, 1, 5}}} {
		wantImage(t, what+": crashed", d.Crash(c).Lasts(), want)
	}
}

// scribble writes over a list and its spare room.
func scribble(b []byte) {
	b = b[:cap(b)]
	for i := range b {
		b[i] ^= 0xff
	}
}

// marked gives a copy of b in the midst of marks, ahead of it and in its spare room; the second answer looks whether all is as it was.
func marked(b []byte) ([]byte, func(t *testing.T)) {
	const room = 80
	all := bytes.Repeat([]byte{0xa5}, room+len(b)+room)
	copy(all[room:], b)
	was := bytes.Clone(all)
	return all[room : room+len(b)], func(t *testing.T) {
		t.Helper()
		if !bytes.Equal(all, was) {
			t.Errorf("what was handed in was changed: % x, want % x", all, was)
		}
	}
}

// call is one of the calls that are acts, with arguments that are right on a disk of the small shape.
type call struct {
	name string
	do   func(d *disk.Disk) api.Errno
}

// acts gives each of the twelve calls that are acts.
func acts() []call {
	return []call{
		{"ReadPage", func(d *disk.Disk) api.Errno { _, e := d.ReadPage(1); return e }},
		{"WritePage", func(d *disk.Disk) api.Errno { return d.WritePage(1, a(9)) }},
		{"ReadPair", func(d *disk.Disk) api.Errno { _, e := d.ReadPair(); return e }},
		{"WritePair", func(d *disk.Disk) api.Errno { return d.WritePair(full(56, 9)) }},
		{"Sync", func(d *disk.Disk) api.Errno { return d.Sync() }},
		{"ReadLog", func(d *disk.Disk) api.Errno { _, e := d.ReadLog(0, 1); return e }},
		{"Append", func(d *disk.Disk) api.Errno { return d.Append([]byte{9}) }},
		{"SyncLog", func(d *disk.Disk) api.Errno { return d.SyncLog() }},
		{"Cut", func(d *disk.Disk) api.Errno { return d.Cut(0) }},
		{"ReadMaster", func(d *disk.Disk) api.Errno { _, e := d.ReadMaster(1); return e }},
		{"WriteMaster", func(d *disk.Disk) api.Errno { return d.WriteMaster(1, full(40, 9)) }},
		{"SyncMasters", func(d *disk.Disk) api.Errno { return d.SyncMasters() }},
	}
}

// wrongActs gives calls that are acts and are refused on a disk of the small shape, whatever its log.
func wrongActs() []call {
	return []call{
		{"ReadPage(9)", func(d *disk.Disk) api.Errno { b, e := d.ReadPage(9); return noBytes(b, e) }},
		{"ReadMaster(2)", func(d *disk.Disk) api.Errno { b, e := d.ReadMaster(2); return noBytes(b, e) }},
		{"ReadLog(-1, 1)", func(d *disk.Disk) api.Errno { b, e := d.ReadLog(-1, 1); return noBytes(b, e) }},
		{"WritePage(9, none)", func(d *disk.Disk) api.Errno { return d.WritePage(9, nil) }},
		{"WritePage(0, none)", func(d *disk.Disk) api.Errno { return d.WritePage(0, nil) }},
		{"WriteMaster(2, none)", func(d *disk.Disk) api.Errno { return d.WriteMaster(2, nil) }},
		{"WriteMaster(0, none)", func(d *disk.Disk) api.Errno { return d.WriteMaster(0, nil) }},
		{"WritePair(none)", func(d *disk.Disk) api.Errno { return d.WritePair(nil) }},
		{"Append(1025 bytes)", func(d *disk.Disk) api.Errno { return d.Append(make([]byte, 1025)) }},
		{"Cut(-1)", func(d *disk.Disk) api.Errno { return d.Cut(-1) }},
	}
}

// noBytes hands the error on, or a number that is none, if bytes came with it.
func noBytes(b []byte, e api.Errno) api.Errno {
	if len(b) != 0 {
		return -1
	}
	return e
}

// loosely gives a disk of the small shape with loose writes at all its places, over marks that last, and three of five bytes of the log loose.
func loosely(t *testing.T) *disk.Disk {
	t.Helper()
	d := loaded(t, small, marks(small, 2))
	for _, e := range []api.Errno{
		d.WritePage(0, a(1)), d.WriteMaster(0, full(40, 2)), d.WritePair(full(56, 3)), d.WritePage(1, a(4)),
		d.WriteMaster(1, full(40, 5)), d.WritePage(0, a(6)), d.WritePair(full(56, 7)), d.WriteMaster(0, full(40, 8)),
		d.Append([]byte{0x11, 0x12, 0x13}),
	} {
		wantErrno(t, "a loose write", e, api.OK)
	}
	return d
}

func TestNew(t *testing.T) { // P6.1
	for pages := 1; pages <= 16; pages++ {
		for slots := 1; slots <= 8; slots++ {
			for _, log := range []int{1024, 1025, 5000, 65535, 65536} {
				s := api.Shape{Pages: pages, Slots: slots, Log: log}
				d := made(t, s)
				wantFresh(t, "New", d)
				wantAllLasts(t, "New", d, zeros(s))
				if d.Shape() != s || d.LogLen() != 0 {
					t.Errorf("New(%v): %v, %d bytes of the log", s, d.Shape(), d.LogLen())
				}
			}
		}
	}
}

// wrongShapes gives shapes that no disk may have.
func wrongShapes() []api.Shape {
	out := []api.Shape{{}, {Pages: 17, Slots: 9, Log: 65537}}
	for _, n := range []int{0, 17, 18, -1, -16, 1 << 40, math.MaxInt, math.MinInt} {
		out = append(out, api.Shape{Pages: n, Slots: 1, Log: 1024})
	}
	for _, n := range []int{0, 9, 10, -1, -8, 1 << 40, math.MaxInt, math.MinInt} {
		out = append(out, api.Shape{Pages: 1, Slots: n, Log: 1024})
	}
	for _, n := range []int{0, 1, 1023, 65537, -1, -1024, 1 << 40, math.MaxInt, math.MinInt} {
		out = append(out, api.Shape{Pages: 1, Slots: 1, Log: n})
	}
	return out
}

func TestWrongShapes(t *testing.T) { // P6.1
	for _, s := range wrongShapes() {
		if d, e := disk.New(s); d != nil || e != api.ErrShape {
			t.Errorf("New(%v): %v, %d, want none, ErrShape", s, d, e)
		}
		// Wrong bytes beside do not come first.
		for _, m := range []api.Image{{}, zeros(small), marks(small, 2000), zeros(api.Shape{Pages: 1, Slots: 1})} {
			if d, e := disk.Load(s, m); d != nil || e != api.ErrShape {
				t.Errorf("Load(%v): %v, %d, want none, ErrShape", s, d, e)
			}
		}
	}
}

func TestLoad(t *testing.T) { // P6.1
	for _, s := range []api.Shape{small, {Pages: 1, Slots: 8, Log: 65536}, {Pages: 16, Slots: 3, Log: 1500}} {
		for _, log := range []int{0, 1, 40, s.Log - 1, s.Log} {
			d := loaded(t, s, marks(s, log))
			wantFresh(t, "Load", d)
			wantAllLasts(t, "Load", d, marks(s, log))
			if d.Shape() != s || d.LogLen() != log {
				t.Errorf("Load(%v): %v, %d bytes of the log, want %d", s, d.Shape(), d.LogLen(), log)
			}
		}
	}
}

func TestLoadRefuses(t *testing.T) { // P6.1
	for i, change := range []func(m *api.Image){
		func(m *api.Image) { *m = api.Image{} },
		func(m *api.Image) { m.Pages = nil },
		func(m *api.Image) { m.Pages = m.Pages[:1] },
		func(m *api.Image) { m.Pages = append(m.Pages, a(0)) },
		func(m *api.Image) { m.Pages[0] = full(39, 0) },
		func(m *api.Image) { m.Pages[1] = full(41, 0) },
		func(m *api.Image) { m.Pages[1] = full(56, 0) },
		func(m *api.Image) { m.Pages[1] = nil },
		// As many bytes in all as there must be.
		func(m *api.Image) { m.Pages[0], m.Pages[1] = full(39, 0), full(41, 0) },
		func(m *api.Image) { m.Pages, m.Pair = append(m.Pages, m.Pair), a(0) },
		func(m *api.Image) { m.Pages, m.Pair = m.Pages[:1], full(96, 0) },
		func(m *api.Image) { m.Pair = nil },
		func(m *api.Image) { m.Pair = full(55, 0) },
		func(m *api.Image) { m.Pair = full(57, 0) },
		func(m *api.Image) { m.Pair = full(40, 0) },
		func(m *api.Image) { m.Masters[0] = nil },
		func(m *api.Image) { m.Masters[0] = full(41, 0) },
		func(m *api.Image) { m.Masters[1] = full(39, 0) },
		func(m *api.Image) { m.Masters[1] = full(56, 0) },
		func(m *api.Image) { m.Log = full(1025, 0) },
		func(m *api.Image) { m.Log = full(65536, 0) },
	} {
		m := zeros(small)
		change(&m)
		if d, e := disk.Load(small, m); d != nil || e != api.ErrBytes {
			t.Errorf("Load of the wrong image number %d: %v, %d, want none, ErrBytes", i, d, e)
		}
	}
}

func TestReadPlaces(t *testing.T) { // P6.2
	for _, s := range []api.Shape{small, {Pages: 16, Slots: 8, Log: 1024}, {Pages: 1, Slots: 2, Log: 1024}} {
		m := marks(s, 7)
		d := loaded(t, s, m)
		for range 2 {
			for p := range s.Pages {
				b, e := d.ReadPage(p)
				wantRead(t, fmt.Sprintf("ReadPage(%d)", p), b, e, m.Pages[p])
			}
			for k := range 2 {
				b, e := d.ReadMaster(k)
				wantRead(t, fmt.Sprintf("ReadMaster(%d)", k), b, e, m.Masters[k])
			}
			b, e := d.ReadPair()
			wantRead(t, "ReadPair()", b, e, m.Pair)
		}
		wantAllLasts(t, "behind reads", d, m)
	}
}

func TestWritePlaces(t *testing.T) { // P6.2
	s := api.Shape{Pages: 3, Slots: 2, Log: 1024}
	d := loaded(t, s, marks(s, 7))
	want := marks(s, 7)
	x := byte(0)
	// Each place twice: the last write of a place is read.
	for range 2 {
		for _, b := range parts(want) {
			if len(b) == 7 {
				continue
			}
			x++
			copy(b, full(len(b), x))
		}
		for p, b := range want.Pages {
			c, look := marked(b)
			wantErrno(t, "WritePage", d.WritePage(p, c), api.OK)
			look(t)
			scribble(c)
		}
		for k, b := range want.Masters {
			c, look := marked(b)
			wantErrno(t, "WriteMaster", d.WriteMaster(k, c), api.OK)
			look(t)
			scribble(c)
		}
		c, look := marked(want.Pair)
		wantErrno(t, "WritePair", d.WritePair(c), api.OK)
		look(t)
		scribble(c)
		wantImage(t, "read", d.Image(), want)
		wantImage(t, "lasts", d.Lasts(), marks(s, 7))
	}
	for p, b := range want.Pages {
		c, e := d.ReadPage(p)
		wantRead(t, "ReadPage", c, e, b)
	}
	for k, b := range want.Masters {
		c, e := d.ReadMaster(k)
		wantRead(t, "ReadMaster", c, e, b)
	}
	c, e := d.ReadPair()
	wantRead(t, "ReadPair", c, e, want.Pair)
	wantImage(t, "kept whole", d.Crash(allKept).Lasts(), want)
}

func TestPlacesRefused(t *testing.T) { // P6.2
	m := marks(small, 7)
	d := loaded(t, small, m)
	for _, n := range []int{-1, -2, 2, 3, 4, 5, 16, 1 << 32, 1<<32 + 1, math.MaxInt, math.MinInt} {
		b, e := d.ReadPage(n)
		wantRefused(t, fmt.Sprintf("ReadPage(%d)", n), b, e, api.ErrPlace)
		b, e = d.ReadMaster(n)
		wantRefused(t, fmt.Sprintf("ReadMaster(%d)", n), b, e, api.ErrPlace)
		// Wrong bytes beside do not come first.
		for _, b := range [][]byte{nil, a(1), full(56, 1), full(39, 1)} {
			wantErrno(t, fmt.Sprintf("WritePage(%d, %d bytes)", n, len(b)), d.WritePage(n, b), api.ErrPlace)
			wantErrno(t, fmt.Sprintf("WriteMaster(%d, %d bytes)", n, len(b)), d.WriteMaster(n, b), api.ErrPlace)
		}
	}
	for n := range 200 {
		for i := range 2 {
			if n != 40 {
				wantErrno(t, fmt.Sprintf("WritePage of %d bytes", n), d.WritePage(i, full(n, 1)), api.ErrBytes)
				wantErrno(t, fmt.Sprintf("WriteMaster of %d bytes", n), d.WriteMaster(i, full(n, 1)), api.ErrBytes)
			}
			if n != 56 {
				wantErrno(t, fmt.Sprintf("WritePair of %d bytes", n), d.WritePair(full(n, 1)), api.ErrBytes)
			}
		}
	}
	wantAllLasts(t, "behind refusals", d, m)
}

func TestPlacesOfOtherShapes(t *testing.T) { // P6.2
	d := made(t, api.Shape{Pages: 1, Slots: 8, Log: 1024})
	_, e := d.ReadPage(1)
	wantErrno(t, "ReadPage(1) of one page", e, api.ErrPlace)
	wantErrno(t, "WritePage of 40 bytes", d.WritePage(0, full(40, 1)), api.ErrBytes)
	wantErrno(t, "WritePage of 152 bytes", d.WritePage(0, full(152, 1)), api.OK)
	wantErrno(t, "WritePair of 152 bytes", d.WritePair(full(152, 1)), api.ErrBytes)
	wantErrno(t, "WritePair of 168 bytes", d.WritePair(full(168, 1)), api.OK)
	wantErrno(t, "WriteMaster of 40 bytes", d.WriteMaster(1, full(40, 1)), api.OK)
}

func TestReadLog(t *testing.T) { // P6.3
	for _, n := range []int{0, 1, 2, 5, 12} {
		m := marks(small, n)
		d := loaded(t, small, m)
		for from := -2; from <= n+2; from++ {
			for _, many := range []int{math.MinInt, -1, 0, 1, 2, 3, n - 1, n, n + 1, math.MaxInt} {
				b, e := d.ReadLog(from, many)
				what := fmt.Sprintf("ReadLog(%d, %d) of %d bytes", from, many, n)
				if from < 0 || from > n || many < 0 {
					wantRefused(t, what, b, e, api.ErrPlace)
				} else {
					wantRead(t, what, b, e, m.Log[from:from+min(many, n-from)])
				}
			}
		}
		for _, from := range []int{math.MinInt, math.MaxInt} {
			b, e := d.ReadLog(from, 1)
			wantRefused(t, fmt.Sprintf("ReadLog(%d, 1)", from), b, e, api.ErrPlace)
		}
		wantAllLasts(t, "behind ReadLog", d, m)
	}
}

func TestAppend(t *testing.T) { // P6.3
	d := made(t, small)
	var want []byte
	for n := range 20 {
		b, look := marked(full(n, byte(n)))
		want = append(want, b...)
		wantErrno(t, "Append", d.Append(b), api.OK)
		look(t)
		scribble(b)
		if d.LogLen() != len(want) {
			t.Errorf("LogLen: %d, want %d", d.LogLen(), len(want))
		}
		c, e := d.ReadLog(0, 2000)
		wantRead(t, "behind Append", c, e, want)
		wantBytes(t, "what lasts behind Append", d.Lasts().Log, nil)
	}
}

func TestAppendToTheEnd(t *testing.T) { // P6.3
	for _, s := range []api.Shape{small, {Pages: 1, Slots: 1, Log: 65536}} {
		for _, there := range []int{0, 1, 500, s.Log - 1, s.Log} {
			d := loaded(t, s, marks(s, there))
			wantErrno(t, "Append of one too many", d.Append(full(s.Log-there+1, 7)), api.ErrRoom)
			wantErrno(t, "Append of many too many", d.Append(full(s.Log+100, 7)), api.ErrRoom)
			wantAllLasts(t, "behind ErrRoom", d, marks(s, there))
			wantErrno(t, "Append to the end", d.Append(full(s.Log-there, 7)), api.OK)
			if d.LogLen() != s.Log {
				t.Errorf("LogLen: %d, want %d", d.LogLen(), s.Log)
			}
			wantErrno(t, "Append of none", d.Append(nil), api.OK)
			wantErrno(t, "Append of none", d.Append([]byte{}), api.OK)
			wantErrno(t, "Append behind the end", d.Append([]byte{1}), api.ErrRoom)
			wantBytes(t, "the log", d.Image().Log, append(marks(s, there).Log, full(s.Log-there, 7)...))
		}
	}
}

func TestCut(t *testing.T) { // P6.3
	for synced := 0; synced <= 4; synced++ {
		for loose := 0; loose <= 4; loose++ {
			for n := range synced + loose + 1 {
				m := marks(small, synced+loose)
				all := m.Log
				m.Log = all[:synced]
				d := loaded(t, small, m)
				wantErrno(t, "Append", d.Append(all[synced:]), api.OK)
				wantErrno(t, "Cut", d.Cut(n), api.OK)
				what := fmt.Sprintf("Cut(%d) of %d and %d loose bytes", n, synced, loose)
				if d.LogLen() != n {
					t.Errorf("%s: %d bytes", what, d.LogLen())
				}
				wantBytes(t, what+": read", d.Image().Log, all[:n])
				wantBytes(t, what+": lasts", d.Lasts().Log, all[:min(n, synced)])
				wantBytes(t, what+": all kept", d.Crash(allKept).Lasts().Log, all[:n])
				wantErrno(t, "Append", d.Append([]byte{0xee}), api.OK)
				wantBytes(t, what+": read behind Append", d.Image().Log, append(bytes.Clone(all[:n]), 0xee))
				wantBytes(t, what+": lasts behind Append", d.Lasts().Log, all[:min(n, synced)])
			}
		}
	}
}

func TestCutRefused(t *testing.T) { // P6.3
	for _, there := range []int{0, 2, 1024} {
		d := loaded(t, small, marks(small, there))
		for _, n := range []int{-1, there + 1, there + 2, math.MaxInt, math.MinInt} {
			wantErrno(t, fmt.Sprintf("Cut(%d) of %d bytes", n, there), d.Cut(n), api.ErrPlace)
		}
		wantAllLasts(t, "behind ErrPlace", d, marks(small, there))
	}
}

func TestSync(t *testing.T) { // P6.4
	d := loosely(t)
	was := marks(small, 2)
	wantErrno(t, "Sync", d.Sync(), api.OK)
	want := api.Image{Pages: [][]byte{a(6), a(4)}, Pair: full(56, 7), Masters: was.Masters, Log: was.Log}
	wantImage(t, "lasts behind Sync", d.Lasts(), want)
	// Of the list the masters' writes are left: 2, 5, 8.
	want.Masters = [2][]byte{torn(40, 9, 8, 2), torn(40, 0, 0, 0)}
	copy(want.Masters[1], was.Masters[1])
	wantImage(t, "the masters' order", d.Crash(api.Choice{Keep: []int{1, 0, 10}}).Lasts(), want)
	want.Masters = [2][]byte{full(40, 8), full(40, 5)}
	want.Log = append(bytes.Clone(was.Log), 0x11, 0x12, 0x13)
	wantImage(t, "read behind Sync", d.Image(), want)
	wantErrno(t, "Sync", d.Sync(), api.OK)
	wantImage(t, "a second Sync leaves the masters", d.Lasts(), api.Image{Pages: want.Pages, Pair: want.Pair, Masters: was.Masters, Log: was.Log})
}

func TestSyncMasters(t *testing.T) { // P6.4
	d := loosely(t)
	was := marks(small, 2)
	wantErrno(t, "SyncMasters", d.SyncMasters(), api.OK)
	masters := [2][]byte{full(40, 8), full(40, 5)}
	wantImage(t, "lasts behind SyncMasters", d.Lasts(), api.Image{Pages: was.Pages, Pair: was.Pair, Masters: masters, Log: was.Log})
	// Of the list the others' writes are left: 1 and 6 of page 0, 3 and 7 of the pair, 4 of page 1, in the order 1, 3, 4, 6, 7.
	got := d.Crash(api.Choice{Keep: []int{1, 1, 0, 6, 11}}).Lasts()
	wantImage(t, "the others' order", got, api.Image{Pages: [][]byte{torn(40, 5, 6, 1), was.Pages[1]}, Pair: torn(56, 10, 7, 3), Masters: masters, Log: was.Log})
	wantImage(t, "read behind SyncMasters", d.Image(), api.Image{Pages: [][]byte{a(6), a(4)}, Pair: full(56, 7), Masters: masters, Log: append(was.Log, 0x11, 0x12, 0x13)})
}

func TestSyncLog(t *testing.T) { // P6.4
	d := loosely(t)
	want := marks(small, 2)
	want.Log = append(want.Log, 0x11, 0x12, 0x13)
	read := d.Image()
	wantErrno(t, "SyncLog", d.SyncLog(), api.OK)
	wantImage(t, "lasts behind SyncLog", d.Lasts(), want)
	wantImage(t, "read behind SyncLog", d.Image(), read)
	wantErrno(t, "Append", d.Append([]byte{0x14}), api.OK)
	wantImage(t, "lasts behind Append", d.Lasts(), want)
	// The loose writes stay: all eight of them.
	wantImage(t, "kept", d.Crash(allKept).Lasts(), d.Image())
}

func TestSyncedStays(t *testing.T) { // P6.4
	d := made(t, small)
	wantErrno(t, "WritePage", d.WritePage(0, a(1)), api.OK)
	wantErrno(t, "Sync", d.Sync(), api.OK)
	wantErrno(t, "WritePage", d.WritePage(0, a(2)), api.OK)
	wantBytes(t, "what lasts", d.Lasts().Pages[0], a(1))
	wantBytes(t, "lost", d.Crash(noneKept).Lasts().Pages[0], a(1))
	// The list begins with the second write: the first number is its.
	wantBytes(t, "torn", d.Crash(api.Choice{Keep: []int{4, 1}}).Lasts().Pages[0], torn(40, 3, 2, 1))
}

func TestActs(t *testing.T) { // P6.5
	d := made(t, small)
	n := 0
	for range 3 {
		for _, c := range append(acts(), wrongActs()...) {
			c.do(d)
			n++
			if d.Acts() != n {
				t.Fatalf("behind %s: %d acts, want %d", c.name, d.Acts(), n)
			}
			d.Shape()
			d.LogLen()
			d.Acts()
			d.Stop(0)
			d.Stop(1000)
			d.Dead()
			d.Crash(allKept)
			d.Copy()
			d.Image()
			d.Lasts()
			if d.Acts() != n || d.Dead() {
				t.Fatalf("calls that are no acts: %d acts, want %d", d.Acts(), n)
			}
		}
	}
}

func TestStop(t *testing.T) { // P6.5
	all := append(acts(), wrongActs()...)
	for n := 1; n <= 2*len(all); n++ {
		d := made(t, small)
		d.SyncLog()
		d.Stop(n)
		for i := 1; i < n; i++ {
			c := all[(i+n)%len(all)]
			if e := c.do(d); e == api.ErrDead || d.Dead() || d.Acts() != i+1 {
				t.Fatalf("Stop(%d): the act %d, %s: %d, %d acts", n, i, c.name, e, d.Acts())
			}
		}
		image, lasts, kept := d.Image(), d.Lasts(), d.Crash(allKept).Lasts()
		for i := range 2 * len(all) {
			c := all[(i+3*n)%len(all)]
			wantErrno(t, "stopped: "+c.name, c.do(d), api.ErrDead)
			if !d.Dead() || d.Acts() != n {
				t.Fatalf("Stop(%d): dead %v, %d acts", n, d.Dead(), d.Acts())
			}
		}
		wantImage(t, "nothing is done: read", d.Image(), image)
		wantImage(t, "nothing is done: lasts", d.Lasts(), lasts)
		wantImage(t, "nothing is done: loose", d.Crash(allKept).Lasts(), kept)
	}
}

func TestEachActStopped(t *testing.T) { // P6.5
	for _, c := range append(acts(), wrongActs()...) {
		d := loosely(t)
		n, image, lasts := d.Acts(), d.Image(), d.Lasts()
		d.Stop(1)
		if d.Dead() {
			t.Errorf("Stop makes the disk dead")
		}
		wantErrno(t, c.name, c.do(d), api.ErrDead)
		if !d.Dead() || d.Acts() != n {
			t.Errorf("%s: dead %v, %d acts, want true, %d", c.name, d.Dead(), d.Acts(), n)
		}
		wantImage(t, c.name+": read", d.Image(), image)
		wantImage(t, c.name+": lasts", d.Lasts(), lasts)
		wantImage(t, c.name+": loose", d.Crash(allKept).Lasts(), image)
	}
}

func TestReadsOfADeadDisk(t *testing.T) { // P6.5
	d := loosely(t)
	d.Stop(1)
	for range 2 {
		b, e := d.ReadPage(0)
		wantRefused(t, "ReadPage", b, e, api.ErrDead)
		b, e = d.ReadPair()
		wantRefused(t, "ReadPair", b, e, api.ErrDead)
		b, e = d.ReadMaster(0)
		wantRefused(t, "ReadMaster", b, e, api.ErrDead)
		b, e = d.ReadLog(0, 1)
		wantRefused(t, "ReadLog", b, e, api.ErrDead)
	}
}

func TestStopLiftedAndChanged(t *testing.T) { // P6.5
	for _, n := range []int{0, -1, -5, math.MinInt} {
		d := made(t, small)
		d.Stop(1)
		d.Stop(n)
		for range 30 {
			wantErrno(t, fmt.Sprintf("Stop(1), Stop(%d)", n), d.Sync(), api.OK)
		}
		d = made(t, small)
		d.Stop(n)
		wantErrno(t, fmt.Sprintf("Stop(%d)", n), d.Sync(), api.OK)
	}
	d := made(t, small)
	d.Stop(2)
	wantErrno(t, "the first", d.Sync(), api.OK)
	// Counted from here on, whatever the earlier one said.
	d.Stop(3)
	wantErrno(t, "the second", d.Sync(), api.OK)
	wantErrno(t, "the third", d.Sync(), api.OK)
	wantErrno(t, "the fourth", d.Sync(), api.ErrDead)
	d = made(t, small)
	d.Stop(math.MaxInt)
	for range 30 {
		wantErrno(t, "far away", d.Sync(), api.OK)
	}
	d.Stop(1)
	wantErrno(t, "at once", d.Sync(), api.ErrDead)
}

func TestDeadStaysDead(t *testing.T) { // P6.5
	d := loosely(t)
	image, lasts := d.Image(), d.Lasts()
	d.Stop(1)
	d.Sync()
	n := d.Acts()
	for _, k := range []int{0, -1, 1, 2, 100} {
		d.Stop(k)
		wantErrno(t, fmt.Sprintf("dead, Stop(%d)", k), d.Sync(), api.ErrDead)
		if !d.Dead() || d.Acts() != n {
			t.Errorf("dead %v, %d acts, want true, %d", d.Dead(), d.Acts(), n)
		}
	}
	if d.Shape() != small || d.LogLen() != 5 {
		t.Errorf("a dead disk: %v, %d bytes of the log", d.Shape(), d.LogLen())
	}
	wantImage(t, "a dead disk is read", d.Image(), image)
	wantImage(t, "a dead disk lasts", d.Lasts(), lasts)
	wantFresh(t, "a dead disk's crash", d.Crash(allKept))
	wantImage(t, "a dead disk's crash", d.Crash(allKept).Lasts(), image)
	wantFresh(t, "a dead disk's copy", d.Copy())
	wantImage(t, "a dead disk's copy", d.Copy().Image(), image)
	wantImage(t, "a dead disk's copy", d.Copy().Lasts(), lasts)
}

func TestCrashTears(t *testing.T) { // P6.6
	s := api.Shape{Pages: 1, Slots: 2, Log: 1024}
	for k := -200; k <= 400; k++ {
		d := loaded(t, s, marks(s, 0))
		want := marks(s, 0)
		for _, b := range parts(want) {
			first := 0
			if k == 1 {
				first = len(b)
			}
			if k > 1 {
				first = (k - 1) % (len(b) + 1)
			}
			copy(b, full(first, 0xee))
		}
		d.WritePage(0, full(56, 0xee))
		d.WritePair(full(72, 0xee))
		d.WriteMaster(0, full(40, 0xee))
		d.WriteMaster(1, full(40, 0xee))
		wantImage(t, fmt.Sprintf("Keep %d", k), d.Crash(api.Choice{Keep: []int{k}}).Lasts(), want)
	}
}

func TestCrashTearsAtTheEndsOfInt(t *testing.T) { // P6.6
	d := made(t, small)
	d.WritePage(0, a(1))
	for _, c := range []struct{ k, first int }{
		{math.MinInt, 0}, {math.MinInt + 1, 0}, {-41, 0}, {-40, 0}, {-1, 0}, {0, 0}, {1, 40}, {2, 1}, {3, 2}, {41, 40}, {42, 0}, {43, 1}, {82, 40}, {83, 0},
		{math.MaxInt, (math.MaxInt - 1) % 41}, {1 << 32, (1<<32 - 1) % 41}, {1<<32 + 1, (1 << 32) % 41},
	} {
		wantBytes(t, fmt.Sprintf("Keep %d", c.k), d.Crash(api.Choice{Keep: []int{c.k}}).Lasts().Pages[0], torn(40, c.first, 1, 0))
	}
}

func TestCrashOneByOne(t *testing.T) { // P6.6
	d := loosely(t)
	was := marks(small, 2)
	over := func(b []byte, laid ...[]byte) []byte {
		b = bytes.Clone(b)
		for _, l := range laid {
			copy(b, l)
		}
		return b
	}
	// The list: page 0, master 0, pair, page 1, master 1, page 0, pair, master 0.
	for _, c := range []struct {
		keep []int
		want api.Image
	}{
		{nil, was},
		{[]int{}, was},
		{[]int{0}, was},
		{[]int{-7}, was},
		{[]int{1}, api.Image{Pages: [][]byte{a(6), a(4)}, Pair: full(56, 7), Masters: [2][]byte{full(40, 8), full(40, 5)}}},
		{[]int{1, 0}, api.Image{Pages: [][]byte{a(1), was.Pages[1]}, Pair: full(56, 7), Masters: [2][]byte{was.Masters[0], full(40, 5)}}},
		{[]int{0, 1}, api.Image{Pages: [][]byte{a(6), a(4)}, Pair: was.Pair, Masters: [2][]byte{full(40, 8), was.Masters[1]}}},
		{[]int{2, 3, 4}, api.Image{
			Pages:   [][]byte{over(was.Pages[0], full(1, 1), full(3, 6)), over(was.Pages[1], full(1, 4))},
			Pair:    over(was.Pair, full(3, 3), full(1, 7)),
			Masters: [2][]byte{over(was.Masters[0], full(2, 2), full(2, 8)), over(was.Masters[1], full(2, 5))},
		}},
		{[]int{21, 1, 1, 0, -1, 11, 31, 6}, api.Image{
			Pages:   [][]byte{over(was.Pages[0], full(20, 1), full(10, 6)), was.Pages[1]},
			Pair:    torn(56, 30, 7, 3),
			Masters: [2][]byte{torn(40, 5, 8, 2), was.Masters[1]},
		}},
		// Numbers behind those that are asked for do nothing.
		{[]int{0, 0, 0, 0, 0, 0, 0, 0, 1, 1}, was},
		{[]int{0, 0, 0, 0, 0, 0, 0, 1, 1, 1}, api.Image{Pages: was.Pages, Pair: was.Pair, Masters: [2][]byte{full(40, 8), was.Masters[1]}}},
	} {
		c.want.Log = was.Log
		wantImage(t, fmt.Sprintf("Keep %v", c.keep), d.Crash(api.Choice{Keep: c.keep}).Lasts(), c.want)
	}
}

func TestCrashKeepsOfTheLog(t *testing.T) { // P6.6
	for synced := range 4 {
		for loose := range 6 {
			m := marks(small, synced+loose)
			all := m.Log
			m.Log = all[:synced]
			d := loaded(t, small, m)
			d.Append(all[synced:])
			for _, n := range []int{-20, -7, -6, -5, -4, -3, -2, -1, 0, 1, 2, 3, 4, 5, 6, 7, 20, math.MaxInt, math.MinInt} {
				kept := synced + ((n%(loose+1))+loose+1)%(loose+1)
				wantBytes(t, fmt.Sprintf("Log %d of %d and %d loose bytes", n, synced, loose), d.Crash(api.Choice{Log: n}).Lasts().Log, all[:kept])
			}
		}
	}
}

func TestCrashGivesANewDisk(t *testing.T) { // P6.6
	d := loosely(t)
	d.Stop(3)
	acts, image, lasts := d.Acts(), d.Image(), d.Lasts()
	for _, c := range []api.Choice{noneKept, allKept, {Log: 2, Keep: []int{7, 1, 0}}, {Log: -3, Keep: []int{0, 44}}} {
		keep := append(make([]int, 0, 20), c.Keep...)
		x := d.Crash(api.Choice{Log: c.Log, Keep: keep})
		for i := range keep {
			if keep[i] != c.Keep[i] {
				t.Errorf("Keep was changed: %v", keep)
			}
			keep[i] = 1
		}
		if x.Shape() != small || x.LogLen() != len(x.Lasts().Log) {
			t.Errorf("a crash: %v, %d bytes of the log", x.Shape(), x.LogLen())
		}
		wantFresh(t, "a crash", x)
		wantAllLasts(t, "a crash", x, d.Crash(c).Lasts())
		// Whatever is done to the new one, d stays as it is.
		for _, k := range actsTwice() {
			wantErrno(t, k.name, k.do(x), api.OK)
		}
		if d.Acts() != acts || d.Dead() || d.LogLen() != 5 {
			t.Errorf("d behind a crash: %d acts, dead %v", d.Acts(), d.Dead())
		}
		wantImage(t, "d behind a crash: read", d.Image(), image)
		wantImage(t, "d behind a crash: lasts", d.Lasts(), lasts)
		wantImage(t, "d behind a crash: loose", d.Crash(allKept).Lasts(), image)
	}
	wantErrno(t, "d's first", d.Sync(), api.OK)
	wantErrno(t, "d's second", d.Sync(), api.OK)
	wantErrno(t, "d's third", d.Sync(), api.ErrDead)
}

// actsTwice gives the acts twice over, so that those that write come ahead of those that sync, and behind them.
func actsTwice() []call { return append(acts(), acts()...) }

func TestCopy(t *testing.T) { // P6.7
	d := loosely(t)
	d.Stop(1)
	d.Sync()
	image, lasts := d.Image(), d.Lasts()
	c := d.Copy()
	wantFresh(t, "a copy", c)
	if c.Shape() != small || c.LogLen() != 5 {
		t.Errorf("a copy: %v, %d bytes of the log", c.Shape(), c.LogLen())
	}
	wantImage(t, "a copy: read", c.Image(), image)
	wantImage(t, "a copy: lasts", c.Lasts(), lasts)
	for _, k := range []api.Choice{noneKept, allKept, {Log: 2, Keep: []int{7, 1, 0}}, {Log: 1, Keep: []int{12, 13, 14, 15, 16, 17, 18, 19}}} {
		wantImage(t, "a copy: crashed", c.Crash(k).Lasts(), d.Crash(k).Lasts())
	}
	wantErrno(t, "a copy: SyncMasters", c.SyncMasters(), api.OK)
	wantErrno(t, "a copy: Sync", c.Sync(), api.OK)
	wantErrno(t, "a copy: SyncLog", c.SyncLog(), api.OK)
	wantAllLasts(t, "a copy that is synced", c, image)
	wantImage(t, "d: read", d.Image(), image)
	wantImage(t, "d: lasts", d.Lasts(), lasts)
	if !d.Dead() {
		t.Errorf("d is dead no more")
	}
}

func TestCopiesGoTheirOwnWays(t *testing.T) { // P6.7, P6.8
	// As many writes ahead as it takes to have all sorts of spare room behind the list.
	for n := range 9 {
		d := loosely(t)
		for range n {
			wantErrno(t, "WritePair", d.WritePair(full(56, 7)), api.OK)
		}
		wantOwnWays(t, d, d.Copy(), d.Copy())
	}
}

// wantOwnWays looks at two copies to which unlike things are done, and at what they are copies of.
func wantOwnWays(t *testing.T, d, one, two *disk.Disk) {
	t.Helper()
	image, lasts := d.Image(), d.Lasts()
	// Both lists and both logs grow from one beginning on, and so does d's.
	d.WritePage(1, image.Pages[1])
	for i := range 5 {
		one.WritePage(0, a(byte(0x50+i)))
		two.WritePage(0, a(byte(0x60+i)))
		one.Append([]byte{byte(0x50 + i)})
		two.Append([]byte{byte(0x60 + i)})
	}
	one.Cut(3)
	one.Append([]byte{0x70, 0x71})
	wantBytes(t, "the one's page", one.Crash(allKept).Lasts().Pages[0], a(0x54))
	wantBytes(t, "the other's page", two.Crash(allKept).Lasts().Pages[0], a(0x64))
	wantBytes(t, "the one's log", one.Image().Log, append(image.Log[:3:3], 0x70, 0x71))
	wantBytes(t, "the other's log", two.Image().Log, append(image.Log[:5:5], 0x60, 0x61, 0x62, 0x63, 0x64))
	one.Sync()
	one.SyncMasters()
	one.SyncLog()
	two.Stop(1)
	two.Sync()
	wantImage(t, "d: read", d.Image(), image)
	wantImage(t, "d: lasts", d.Lasts(), lasts)
	wantImage(t, "d: loose", d.Crash(allKept).Lasts(), image)
	wantErrno(t, "d is not dead", d.Sync(), api.OK)
}

func TestImageAndLasts(t *testing.T) { // P6.7
	d := loosely(t)
	was := marks(small, 2)
	read := api.Image{Pages: [][]byte{a(6), a(4)}, Pair: full(56, 7), Masters: [2][]byte{full(40, 8), full(40, 5)}, Log: append(was.Log[:2:2], 0x11, 0x12, 0x13)}
	for range 2 {
		for _, c := range []struct {
			what string
			tell func() api.Image
			want api.Image
		}{{"Image", d.Image, read}, {"Lasts", d.Lasts, was}} {
			got := c.tell()
			wantImage(t, c.what, got, c.want)
			wantApart(t, c.what, got)
			for _, b := range parts(got) {
				scribble(b)
			}
			spare := got.Pages[:cap(got.Pages)]
			for i := range spare {
				scribble(spare[i])
				spare[i] = nil
			}
		}
	}
}

// wantApart looks that no two lists of an image share memory, spare room included: each is filled with a number of its own, and none has another's then.
func wantApart(t *testing.T, what string, m api.Image) {
	t.Helper()
	var was [][]byte
	for i, b := range parts(m) {
		was = append(was, bytes.Clone(b))
		copy(b[:cap(b)], full(cap(b), byte(i+1)))
	}
	for _, b := range m.Pages[len(m.Pages):cap(m.Pages)] {
		scribble(b)
	}
	for i, b := range parts(m) {
		wantBytes(t, what+" shares memory", b[:cap(b)], full(cap(b), byte(i+1)))
		copy(b, was[i])
	}
}

func TestLoadKeepsNothing(t *testing.T) { // P6.1, P6.8
	m := marks(small, 9)
	m.Pages = append(make([][]byte, 0, 8), m.Pages...)
	var looks []func(t *testing.T)
	shield := func(b []byte) []byte {
		c, look := marked(b)
		looks = append(looks, look)
		return c
	}
	for i := range m.Pages {
		m.Pages[i] = shield(m.Pages[i])
	}
	m.Pair, m.Log, m.Masters = shield(m.Pair), shield(m.Log), [2][]byte{shield(m.Masters[0]), shield(m.Masters[1])}
	d := loaded(t, small, m)
	x := loaded(t, small, m)
	for _, c := range actsTwice() {
		wantErrno(t, c.name, c.do(x), api.OK)
	}
	for _, look := range looks {
		look(t)
	}
	for _, b := range m.Pages[:cap(m.Pages)][len(m.Pages):] {
		if b != nil {
			t.Errorf("the spare room of the image's pages was changed: % x", b)
		}
	}
	for i, b := range parts(m) {
		scribble(b)
		if i < len(m.Pages) {
			m.Pages[i] = nil
		}
	}
	wantAllLasts(t, "a loaded disk", d, marks(small, 9))
}

func TestWhatFollows(t *testing.T) { // P6.8
	d := loosely(t)
	wantImage(t, "all kept", d.Crash(allKept).Lasts(), d.Image())
	wantImage(t, "none kept", d.Crash(noneKept).Lasts(), d.Lasts())
	image := d.Image()
	for _, e := range []api.Errno{d.Sync(), d.SyncLog(), d.SyncMasters()} {
		wantErrno(t, "synced", e, api.OK)
	}
	wantAllLasts(t, "behind all three", d, image)
}

func TestTwoNewDisks(t *testing.T) { // P6.8
	one, two := made(t, small), made(t, small)
	for _, c := range actsTwice() {
		wantErrno(t, c.name, c.do(one), api.OK)
	}
	one.Stop(1)
	one.Sync()
	wantFresh(t, "the other", two)
	wantAllLasts(t, "the other", two, zeros(small))
}

func TestExamples(t *testing.T) { // P6.2 to P6.8, the chapter's examples
	d := made(t, small)
	d.WritePage(0, a(1))
	d.WritePage(1, a(2))
	d.WritePage(0, a(3))
	x := d.Crash(api.Choice{Keep: []int{1, 0}}).Lasts()
	wantBytes(t, "example 4, page 0", x.Pages[0], a(3))
	wantBytes(t, "example 4, page 1", x.Pages[1], a(0))
	x = d.Crash(api.Choice{Keep: []int{0, 1, 11}}).Lasts()
	wantBytes(t, "example 4, page 0", x.Pages[0], torn(40, 10, 3, 0))
	wantBytes(t, "example 4, page 1", x.Pages[1], a(2))

	d = made(t, small)
	d.Append([]byte{1, 2, 3})
	d.SyncLog()
	d.Append([]byte{4, 5})
	wantBytes(t, "example 5, Log 1", d.Crash(api.Choice{Log: 1}).Lasts().Log, []byte{1, 2, 3, 4})
	wantBytes(t, "example 5, Log 3", d.Crash(api.Choice{Log: 3}).Lasts().Log, []byte{1, 2, 3})
	wantBytes(t, "example 5, Log -1", d.Crash(api.Choice{Log: -1}).Lasts().Log, []byte{1, 2, 3, 4, 5})
	d.Cut(4)
	wantBytes(t, "example 5, Cut(4)", d.Lasts().Log, []byte{1, 2, 3})
	d.Cut(2)
	wantBytes(t, "example 5, Cut(2)", d.Lasts().Log, []byte{1, 2})
	wantErrno(t, "example 5, Cut(3)", d.Cut(3), api.ErrPlace)

	d = made(t, small)
	d.WriteMaster(1, full(40, 7))
	d.WritePage(0, a(1))
	d.Sync()
	x = d.Crash(api.Choice{Keep: []int{0}}).Lasts()
	wantBytes(t, "example 8, page 0", x.Pages[0], a(1))
	wantBytes(t, "example 8, master 1", x.Masters[1], full(40, 0))
}
