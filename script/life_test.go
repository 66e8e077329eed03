package script_test

import (
	"fmt"
	"math/rand"
	"slices"
	"strconv"
	"strings"
	"testing"

	"tidemark/api"
	"tidemark/plain"
	"tidemark/script"
)

// life is a talk through crashes, told by its lines and answers alone: what was committed, what is open, and what a cut commit may have left.
type life struct {
	*talk
	dice  *rand.Rand
	c     api.Config
	lines []string // all that was said

	done   [][]plain.Change
	open   map[int][]plain.Change
	maybe  []plain.Change // of the transaction whose commit was cut
	isDead bool
}

func someConfig(r *rand.Rand) api.Config {
	return api.Config{Shape: api.Shape{Pages: 1 + r.Intn(6), Slots: 1 + r.Intn(3), Log: 1024 + r.Intn(3000)}, Frames: 2 + r.Intn(4), Table: 1 + r.Intn(8), Keys: 1 + r.Intn(40)}
}

func made(c api.Config) string {
	return fmt.Sprintf("make %d %d %d %d %d %d", c.Shape.Pages, c.Shape.Slots, c.Shape.Log, c.Frames, c.Table, c.Keys)
}

func born(t *testing.T, seed int64) *life {
	t.Helper()
	r := rand.New(rand.NewSource(seed))
	l := &life{talk: begun(t), dice: r, c: someConfig(r), open: map[int][]plain.Change{}}
	l.says(made(l.c), "ok")
	l.lines = []string{made(l.c)}
	return l
}

// say has a line done, and gives its answer.
func (l *life) say(form string, words ...any) string {
	line := fmt.Sprintf(form, words...)
	l.lines = append(l.lines, line)
	got := l.answer(line)
	l.isDead = l.isDead || got == "error 1"
	return got
}

// dumpOf is what a dump must tell.
func dumpOf(done ...[]plain.Change) string {
	text := "dump"
	for _, x := range plain.Fold(done...) {
		text += fmt.Sprintf(" %d=%d", x.Key, x.Value)
	}
	return text
}

// sees is what a get must tell.
func (l *life) sees(id, key int) string {
	for _, x := range plain.Fold(append(slices.Clone(l.done), l.open[id])...) {
		if x.Key == key {
			return fmt.Sprintf("value %d", x.Value)
		}
	}
	return "none"
}

func (l *life) step() {
	l.t.Helper()
	r := l.dice
	id, key, pick := 1+r.Intn(l.c.Table), r.Intn(l.c.Keys), r.Intn(9)
	switch k := r.Intn(50); {
	case k < 10:
		if l.say("begin %d", id) == "ok" {
			l.open[id] = nil
		}
	case k < 14:
		if got, want := l.say("get %d %d %d", id, key, pick), l.sees(id, key); !strings.HasPrefix(got, "error ") && got != want {
			l.t.Errorf("get %d %d: %s, want %s", id, key, got, want)
		}
	case k < 28:
		v := r.Uint64() >> r.Intn(64)
		l.changed(id, l.say("put %d %d %d %d", id, key, v, pick), plain.Change{Key: key, Value: v})
	case k < 32:
		l.changed(id, l.say("delete %d %d %d", id, key, pick), plain.Change{Key: key, Gone: true})
	case k < 38:
		l.commit(id)
	case k < 41:
		if l.say("abort %d %d", id, pick) == "ok" {
			delete(l.open, id)
		}
	case k < 44:
		l.say("clean %d", r.Intn(l.c.Shape.Pages))
	case k < 46:
		l.say("checkpoint")
	case k < 48:
		l.say("renew")
	default:
		if got := l.say("dump"); strings.HasPrefix(got, "dump") && got != dumpOf(l.done...) {
			l.t.Errorf("%s, want %s", got, dumpOf(l.done...))
		}
	}
}

func (l *life) changed(id int, got string, c plain.Change) {
	switch got {
	case "ok":
		l.open[id] = append(l.open[id], c)
	case "error 170":
		delete(l.open, id)
	}
}

func (l *life) commit(id int) {
	switch l.say("commit %d", id) {
	case "ok":
		l.done = append(l.done, l.open[id])
		delete(l.open, id)
	case "error 1":
		l.maybe = l.open[id]
	}
}

func (l *life) goOn(lines int) {
	l.t.Helper()
	for i := 0; i < lines && !l.isDead; i++ {
		l.step()
	}
}

// cutCommit has the disk die within the commit of an open transaction, if there is one and the disk lives.
func (l *life) cutCommit() {
	for id := range api.MaxId {
		if _, is := l.open[id]; is && !l.isDead {
			l.say("stop %d", 1+l.dice.Intn(2))
			l.commit(id)
		}
	}
}

func (l *life) crash() {
	l.t.Helper()
	r := l.dice
	log := []int{0, -1, r.Intn(60), r.Intn(1000)}[r.Intn(4)]
	keep := []string{"-", "1", "0,1", "1,0", fmt.Sprintf("%d,%d", r.Intn(150), r.Intn(150)), strconv.Itoa(r.Intn(80))}[r.Intn(6)]
	if got := l.say("crash %d %s", log, keep); got != "ok" {
		l.t.Errorf("a crash: %s", got)
	}
	l.isDead = false
}

func (l *life) opens() string {
	return l.say("open %d %s", 2+l.dice.Intn(15), []string{"aries", "choose"}[l.dice.Intn(2)])
}

// duels has both managers, with any frames, tell the same of what lasts (W3), and gives what they tell.
func (l *life) duels() string {
	l.t.Helper()
	got, is := strings.CutPrefix(l.say("duel %d", 2+l.dice.Intn(15)), "same ")
	if !is || l.say("sound") != "sound 0" {
		l.t.Errorf("%s", got)
	}
	return got
}

// butRedone takes from what an open tells how much was done again: that alone may part the managers.
func butRedone(opened string) string {
	words := strings.Split(opened, " ")
	return strings.Join(slices.Concat(words[1:5], words[7:]), " ")
}

// alone is the dump that a restart of what is left, cut by nothing, leaves: in another talk of the same lines.
func (l *life) alone() string {
	s := script.New()
	for _, line := range l.lines {
		s.Do(line)
	}
	s.Do("stop 0")
	s.Do("open 2 aries")
	return strings.Join(s.Do("dump"), "\n")
}

// reopened goes on behind a restart: what is there must be what the committed left, with the cut one or without (W2).
func (l *life) reopened() {
	l.t.Helper()
	l.says("ids", "ids")
	l.says("used", "used 0 0")
	l.says("log", "")
	got := l.say("dump")
	if got != dumpOf(l.done...) {
		l.done = append(l.done, l.maybe)
	}
	if got != dumpOf(l.done...) {
		l.t.Errorf("%s, committed were %s", got, dumpOf(l.done...))
	}
	l.open, l.maybe = map[int][]plain.Change{}, nil
}

// again opens once more what was just opened: nothing is told, and nothing is another (W5).
func (l *life) again() {
	l.t.Helper()
	was := l.say("dump")
	switch l.dice.Intn(3) {
	case 0:
		l.crash()
	case 1:
		l.say("copy")
	default:
		l.say("close")
	}
	if got := l.opens(); got != silent {
		l.t.Errorf("a second open: %s", got)
	}
	l.says("dump", was)
}

func TestLives(t *testing.T) { // P30.1: W2, W3, W5, in a talk through crashes, within restarts too, by managers picked anew each time
	committed, cuts, cutCommits, kept, losers := 0, 0, 0, 0, 0
	for seed := range int64(120) {
		l := born(t, seed)
		for range 6 {
			l.say("stop %d", l.dice.Intn(90))
			l.goOn(80)
			l.cutCommit()
			l.duels()
			l.crash()
			was, had := len(l.done), l.maybe != nil
			want := l.alone()
			for {
				told := l.duels()
				l.say("stop %d", l.dice.Intn(60))
				got := l.opens()
				if got == "error 1" {
					cuts++
					l.crash()
					continue
				}
				if butRedone(got) != told {
					t.Errorf("seed %d: %s, in a duel %s", seed, got, told)
				}
				losers += strings.Count(got, "undone") - strings.Count(got, "losers -")
				break
			}
			l.say("stop 0")
			l.says("dump", want)
			l.reopened()
			if had {
				cutCommits++
				kept += len(l.done) - was
			}
			l.again()
			if t.Failed() {
				t.Fatalf("seed %d:\n%s", seed, strings.Join(l.lines, "\n"))
			}
		}
		committed += len(l.done)
	}
	if committed < 1000 || cuts < 300 || cutCommits < 30 || kept < 8 || kept > cutCommits-8 || losers < 100 {
		t.Errorf("only %d committed, %d restarts cut, %d commits cut, of which %d are kept, %d restarts with losers", committed, cuts, cutCommits, kept, losers)
	}
}

// model is a talk without a crash, beside the plain model.
type model struct {
	*talk
	m    *plain.State
	c    api.Config
	dice *rand.Rand
}

// asks does one line both ways, and gives the line, its answer, and what the model says.
func (x *model) asks() (line, got, want string) {
	r := x.dice
	id, key, pick, value := r.Intn(x.c.Table+2), r.Intn(x.c.Keys+2)-1, r.Intn(9), r.Uint64()>>r.Intn(64)
	switch k := r.Intn(60); {
	case k < 12:
		line, want = fmt.Sprintf("begin %d", id), said(x.m.Begin(id), "ok")
	case k < 18:
		v, there, f := x.m.Get(id, key)
		line, want = fmt.Sprintf("get %d %d %d", id, key, pick), said(f, map[bool]string{true: fmt.Sprint("value ", v), false: "none"}[there])
	case k < 34:
		line, want = fmt.Sprintf("put %d %d %d %d", id, key, value, pick), said(x.m.Put(id, key, value), "ok")
	case k < 38:
		gone, f := x.m.Delete(id, key)
		line, want = fmt.Sprintf("delete %d %d %d", id, key, pick), said(f, map[bool]string{true: "ok", false: "none"}[gone])
	case k < 44:
		line, want = fmt.Sprintf("commit %d", id), said(x.m.Commit(id), "ok")
	case k < 48:
		line, want = fmt.Sprintf("abort %d %d", id, pick), said(x.m.Abort(id), "ok")
	case k < 51:
		line, want = "renew", said(x.m.Renew(), "ok")
	case k < 54:
		all, f := x.m.Entries()
		text := "dump"
		for _, e := range all {
			text += fmt.Sprintf(" %d=%d", e.Key, e.Value)
		}
		line, want = "dump", said(f, text)
	case k < 57:
		return x.checkpoint()
	default:
		line, want = fmt.Sprintf("clean %d", r.Intn(x.c.Shape.Pages)), "ok"
	}
	return line, x.answer(line), want
}

// checkpoint tells the model how many pages the record says are dirty; where there is none, a record of all pages must be too great.
func (x *model) checkpoint() (line, got, want string) {
	got = x.answer("checkpoint")
	dirty := x.c.Shape.Pages
	if got == "ok" {
		lines := x.s.Do("log")
		dirty = strings.Count(lines[len(lines)-1], "rec ")
	}
	return "checkpoint", got, said(x.m.Checkpoint(dirty), "ok")
}

func TestModel(t *testing.T) { // P30.1: W1: without a crash each answer is the model's
	times := map[string]int{}
	for seed := range int64(300) {
		r := rand.New(rand.NewSource(seed))
		x := &model{talk: begun(t), c: someConfig(r), dice: r}
		x.m, _ = plain.New(x.c)
		x.says(made(x.c), "ok")
		for range 150 {
			line, got, want := x.asks()
			if got != want {
				t.Fatalf("seed %d: %s: %s, want %s", seed, line, got, want)
			}
			bytes, kept := x.m.Used()
			x.says("used", fmt.Sprintf("used %d %d", bytes, kept))
			x.says("ids", strings.TrimSuffix("ids "+strings.ReplaceAll(list(x.m.Ids()), ",", " "), " -"))
			if strings.HasPrefix(got, "error ") {
				times[got]++
			}
		}
	}
	for _, one := range []int{42, 50, 150, 160, 161, 170, 210} {
		if got := times[fmt.Sprint("error ", one)]; got < 20 {
			t.Errorf("error %d: only %d times", one, got)
		}
	}
}
