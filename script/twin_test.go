package script_test

import (
	"fmt"
	"math/rand"
	"strings"
	"testing"

	"tidemark/api"
	"tidemark/disk"
	"tidemark/duel"
	"tidemark/engine"
	"tidemark/master"
	"tidemark/replay"
	"tidemark/sound"
)

// twin is a talk told a second time, by calls of the layers below: each of its calls gives a line and the answer that it must have.
type twin struct {
	dice *rand.Rand
	e    *engine.Engine
	left *disk.Disk
	c    api.Config
}

// own is the disk that most calls are about.
func (w *twin) own() *disk.Disk {
	if w.e != nil {
		return w.e.Disk()
	}
	return w.left
}

func said(f api.Errno, text string) string {
	if f != api.OK {
		return fmt.Sprintf("error %d", f)
	}
	return text
}

// list is a list as Go prints it, with commas in the place of blanks.
func list(all []int) string {
	if len(all) == 0 {
		return "-"
	}
	return strings.ReplaceAll(strings.Trim(fmt.Sprint(all), "[]"), " ", ",")
}

func (w *twin) makes() (string, string) {
	r := w.dice
	c := api.Config{Shape: api.Shape{Pages: 1 + r.Intn(5), Slots: 1 + r.Intn(3), Log: 1024 + r.Intn(2500)}, Frames: 2 + r.Intn(4), Table: 1 + r.Intn(4), Keys: 1 + r.Intn(40)}
	if r.Intn(4) == 0 {
		*[]*int{&c.Shape.Pages, &c.Shape.Slots, &c.Shape.Log, &c.Frames, &c.Table, &c.Keys}[r.Intn(6)] = []int{-1, 0, 1 << 30}[r.Intn(3)]
	}
	e, f := engine.Create(c)
	if f == api.OK {
		w.e, w.left, w.c = e, nil, c
	}
	return fmt.Sprintf("make %d %d %d %d %d %d", c.Shape.Pages, c.Shape.Slots, c.Shape.Log, c.Frames, c.Table, c.Keys), said(f, "ok")
}

func (w *twin) opens() (string, string) {
	c := w.c
	c.Frames = 1 + w.dice.Intn(17)
	manager := 1 + w.dice.Intn(2)
	line := fmt.Sprintf("open %d %s", c.Frames, []string{"", "aries", "choose"}[manager])
	if w.left == nil {
		return line, isClosed
	}
	e, r, f := engine.Open(w.left, c, manager)
	if f == api.OK {
		w.e, w.left = e, nil
	}
	return line, said(f, fmt.Sprintf("ok winners %s losers %s redone %d undone %d ends %d", list(r.Winners), list(r.Losers), r.Redone, r.Undone, r.Ends))
}

// asks is a call of the engine's for a transaction.
func (w *twin) asks() (string, string) {
	r := w.dice
	id, key, pick, value := r.Intn(w.c.Table+2), r.Intn(w.c.Keys+2)-1, r.Intn(20)-10, r.Uint64()>>r.Intn(64)
	lines := []string{
		fmt.Sprintf("begin %d", id),
		fmt.Sprintf("get %d %d %d", id, key, pick),
		fmt.Sprintf("put %d %d %d %d", id, key, value, pick),
		fmt.Sprintf("delete %d %d %d", id, key, pick),
		fmt.Sprintf("commit %d", id),
		fmt.Sprintf("abort %d %d", id, pick),
	}
	k := []int{0, 0, 0, 1, 2, 2, 2, 2, 3, 4, 4, 5}[r.Intn(12)]
	if w.e == nil {
		return lines[k], isClosed
	}
	answer := ""
	switch k {
	case 0:
		answer = said(w.e.Begin(id), "ok")
	case 1:
		v, there, f := w.e.Get(id, key, pick)
		answer = said(f, map[bool]string{true: fmt.Sprint("value ", v), false: "none"}[there])
	case 2:
		answer = said(w.e.Put(id, key, value, pick), "ok")
	case 3:
		gone, f := w.e.Delete(id, key, pick)
		answer = said(f, map[bool]string{true: "ok", false: "none"}[gone])
	case 4:
		answer = said(w.e.Commit(id), "ok")
	case 5:
		answer = said(w.e.Abort(id, pick), "ok")
	}
	return lines[k], answer
}

// keeps is a call of the engine's for none.
func (w *twin) keeps() (string, string) {
	number := w.dice.Intn(w.c.Shape.Pages+2) - 1
	lines := []string{"checkpoint", "renew", fmt.Sprintf("clean %d", number), "dump", "ids", "used", "copy", "close"}
	k := []int{0, 0, 1, 1, 2, 2, 2, 3, 3, 4, 5, 6, 7}[w.dice.Intn(13)]
	if w.e == nil {
		return lines[k], isClosed
	}
	answer := "ok"
	switch k {
	case 0:
		answer = said(w.e.Checkpoint(), "ok")
	case 1:
		answer = said(w.e.Renew(), "ok")
	case 2:
		answer = said(w.e.Clean(number), "ok")
	case 3:
		all, f := w.e.Dump()
		answer = "dump"
		for _, x := range all {
			answer += fmt.Sprintf(" %d=%d", x.Key, x.Value)
		}
		answer = said(f, answer)
	case 4:
		answer = strings.TrimSpace(strings.Trim("ids "+fmt.Sprint(w.e.Ids()), "]"))
		answer = strings.TrimSpace(strings.Replace(answer, "[", "", 1))
	case 5:
		bytes, kept := w.e.Used()
		answer = fmt.Sprintf("used %d %d", bytes, kept)
	case 6:
		w.left = w.e.Disk().Copy()
	case 7:
		w.left = w.e.Disk()
		w.e.Close()
		w.e = nil
	}
	return lines[k], answer
}

// looks is a call that is about a disk.
func (w *twin) looks() (string, string) {
	r := w.dice
	n, choice := r.Intn(40)-8, api.Choice{Log: r.Intn(300) - 100}
	for range r.Intn(4) {
		choice.Keep = append(choice.Keep, r.Intn(70)-5)
	}
	frames := 1 + r.Intn(17)
	lines := []string{fmt.Sprintf("stop %d", n), "acts", fmt.Sprintf("crash %d %s", choice.Log, list(choice.Keep)), "sound", "log", fmt.Sprintf("duel %d", frames)}
	k := []int{0, 1, 2, 2, 3, 4, 4, 5, 5}[r.Intn(9)]
	d := w.own()
	if d == nil {
		return lines[k], isClosed
	}
	answer := "ok"
	switch k {
	case 0:
		d.Stop(n)
	case 1:
		answer = fmt.Sprint("acts ", d.Acts())
	case 2:
		w.e, w.left = nil, d.Crash(choice)
	case 3:
		answer = fmt.Sprint("sound ", sound.Check(w.c.Shape, d.Lasts()))
	case 4:
		answer = logText(w.c.Shape, d.Image())
	case 5:
		v, f := duel.Run(w.c.Shape, d.Lasts(), frames)
		how := map[bool]string{true: "same", false: "differ"}[v.Same]
		answer = said(f, fmt.Sprintf("%s winners %s losers %s undone %d ends %d", how, list(v.A.Winners), list(v.A.Losers), v.A.Undone, v.A.Ends))
	}
	return lines[k], answer
}

// logText goes by the greater turn of the masters' bytes.
func logText(s api.Shape, m api.Image) string {
	a, _ := master.Parse(m.Masters[0])
	b, _ := master.Parse(m.Masters[1])
	if b.Turn > a.Turn {
		a = b
	}
	return strings.TrimSuffix(replay.Text(m.Log, a.Base), "\n")
}

func (w *twin) step() (string, string) {
	switch k := w.dice.Intn(100); {
	case w.c.Keys == 0 || k < 1:
		return w.makes()
	case w.e == nil && k < 40:
		return w.opens()
	case k < 3:
		return w.opens()
	case k < 75:
		return w.asks()
	case k < 88:
		return w.keeps()
	}
	return w.looks()
}

// spread has a line's words parted otherwise.
func (w *twin) spread(line string) string {
	blanks := []string{" ", " ", " ", "\t", "  ", " \t "}
	words := strings.Split(line, " ")
	for i := range words[1:] {
		words[i] += blanks[w.dice.Intn(len(blanks))]
	}
	ends := []string{"", "", "", " ", "\t "}
	return ends[w.dice.Intn(5)] + strings.Join(words, "") + ends[w.dice.Intn(5)]
}

func TestTwins(t *testing.T) { // P30.1: each answer is that of the calls that the table names
	answers := map[string]int{}
	for seed := range int64(400) {
		w := &twin{dice: rand.New(rand.NewSource(seed))}
		k := begun(t)
		for range 300 {
			line, want := w.step()
			got := k.answer(w.spread(line))
			if isUnasked(line, w.e, w.own()) {
				continue
			}
			if got != want {
				t.Fatalf("seed %d: %q: %q, want %q", seed, line, got, want)
			}
			name, _, _ := strings.Cut(line, " ")
			kind, _, _ := strings.Cut(got, " ")
			if kind == "error" {
				kind = got
			}
			if name != "log" {
				answers[name+": "+kind]++
			} else if got != "" {
				answers["log"]++
			}
		}
	}
	for _, one := range []string{"make: ok", "make: error 260", "open: ok", "open: error 1", "open: error 260", "open: error 262", "begin: ok", "begin: error 1", "begin: error 160", "begin: error 161", "begin: error 170", "begin: error 262",
		"get: value", "get: none", "get: error 1", "get: error 50", "get: error 150", "get: error 160", "put: ok", "put: error 1", "put: error 42", "put: error 50", "put: error 150", "put: error 160", "put: error 170",
		"delete: ok", "delete: none", "delete: error 150", "commit: ok", "commit: error 1", "commit: error 160", "commit: error 262", "abort: ok", "abort: error 160", "checkpoint: ok", "checkpoint: error 1", "checkpoint: error 170", "renew: ok", "renew: error 1", "renew: error 210",
		"clean: ok", "clean: error 61", "dump: dump", "dump: error 210", "dump: error 1", "ids: ids", "used: used", "copy: ok", "close: ok", "close: error 262", "stop: ok", "acts: acts", "crash: ok", "sound: sound", "log", "duel: same", "duel: error 140"} {
		if answers[one] < 5 {
			t.Errorf("%s: only %d times", one, answers[one])
		}
	}
}

// isUnasked: of an engine whose disk has died ids and used are not asked.
func isUnasked(line string, e *engine.Engine, d *disk.Disk) bool {
	return (line == "ids" || line == "used") && e != nil && d.Dead()
}
