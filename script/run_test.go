package script_test

import (
	"math/rand"
	"slices"
	"strings"
	"testing"

	"tidemark/script"
)

func runs(t *testing.T, text, want string) {
	t.Helper()
	if got := script.Run(text); got != want {
		t.Errorf("Run of %d bytes, %.60q: %.200q, want %.200q", len(text), text, got, want)
	}
}

func TestRuns(t *testing.T) { // P30.2: lines parted at bytes 10; the last may lack it; a byte 10 behind every answer's line
	runs(t, "", "")
	runs(t, "\n", "")
	runs(t, "\n\n\n", "")
	runs(t, "dump", "error 262\n")
	runs(t, "dump\n", "error 262\n")
	runs(t, "\ndump\n\n", "error 262\n")
	runs(t, "# no\n"+small+"\ndump", "ok\ndump\n")
	runs(t, small+"\ndump\n", "ok\ndump\n")
	runs(t, small+"\r\ndump\r\n", "error 300\nerror 300\n")
	runs(t, small+"\n\tbegin 3\nput 3 8 5 0\nclean 0\nlog\nids", "ok\nok\nok\nok\n1 begin 3\n35 update 1 1 page 0 at 16: 000000000000000000 to 010000000800000005\nids 3\n")
	runs(t, small+"\nlog\nids\n", "ok\nids\n")
	runs(t, "frob\x00\n\xff\nbegin 3 "+small, "error 300\nerror 300\nerror 300\n")
	runs(t, small, "ok\n") // each in a talk of its own:
	runs(t, "ids", "error 262\n")
}

func TestTextsTooLong(t *testing.T) { // P30.2: MaxText bytes, MaxLines lines; beyond that nothing is done
	many := func(line string, n int) string { return strings.Repeat(line+"\n", n) }
	runs(t, many("", 1024), "")
	runs(t, many("", 1025), isTooLong)
	runs(t, many("", 1023)+"ids", "error 262\n")
	runs(t, many("", 1023)+"ids\n", "error 262\n")
	runs(t, many("", 1024)+"ids", isTooLong)
	runs(t, many("", 1024)+" ", isTooLong)
	runs(t, many("", 1024)+"#", isTooLong)
	runs(t, many("ids", 1024), many("error 262", 1024))
	runs(t, many("ids", 1025), isTooLong)
	runs(t, many("ids", 1024)[:4095], many("error 262", 1024))
	runs(t, strings.Repeat(" ", 65536), "")
	runs(t, strings.Repeat(" ", 65537), isTooLong)
	runs(t, strings.Repeat(" ", 65535)+"\n", "")
	runs(t, strings.Repeat(" ", 65536)+"\n", isTooLong)
	runs(t, "ids\n"+strings.Repeat("#", 65532), "error 262\n")
	runs(t, "ids\n"+strings.Repeat("#", 65533), isTooLong)
	runs(t, strings.Repeat("#", 65532)+"\nids", "error 262\n")
	runs(t, strings.Repeat("\n", 65536), isTooLong)
	runs(t, strings.Repeat("x", 1<<20), isTooLong)
	runs(t, small+"\n"+strings.Repeat("é", 32768), isTooLong)
	runs(t, strings.Repeat("é", 32768), "error 300\n")
}

// someTalk is a text's lines, of all kinds, whatever they answer.
func someTalk(seed int64, n int) []string {
	w := &twin{dice: rand.New(rand.NewSource(seed))}
	var lines []string
	for range n {
		line, _ := w.step()
		lines = append(lines, w.spread(line))
		if w.dice.Intn(12) == 0 {
			lines = append(lines, []string{"frob", "begin", "begin 01", "put 1 1 -1 0", "crash 0 1,", "open 2 both"}[w.dice.Intn(6)])
		}
	}
	return lines
}

// answers gives what each line is answered.
func answers(lines []string) [][]string {
	s := script.New()
	var all [][]string
	for _, line := range lines {
		all = append(all, s.Do(line))
	}
	return all
}

// textOf has a byte 10 behind each line of lists of lines.
func textOf(all ...[]string) string {
	var b strings.Builder
	for _, line := range slices.Concat(all...) {
		b.WriteString(line + "\n")
	}
	return b.String()
}

func TestRunIsDo(t *testing.T) { // P30.2: Run is New, and Do of each line
	for seed := range int64(100) {
		lines := someTalk(seed, 150)
		want := textOf(answers(lines)...)
		text := textOf(lines)
		runs(t, text, want)
		runs(t, text[:len(text)-1], want)
		runs(t, text, want) // once more: nothing is kept
	}
}

func TestBeginnings(t *testing.T) { // P30.3: a text's beginning is answered alike, whatever follows
	for seed := range int64(15) {
		lines := someTalk(1000+seed, 60)
		all := answers(lines)
		for n := range lines {
			text := textOf(lines[:n])
			runs(t, text, textOf(all[:n]...))
			other := someTalk(2000+seed+int64(n), 5)
			if got := script.Run(text + textOf(other)); !strings.HasPrefix(got, textOf(all[:n]...)) {
				t.Errorf("seed %d: %d lines are answered otherwise", seed, n)
			}
		}
	}
}

// woven has other lines stand among some, and gives where those stand then.
func woven(r *rand.Rand, lines, others []string) (all []string, at []int) {
	for _, line := range lines {
		for range r.Intn(4) {
			all = append(all, others[r.Intn(len(others))])
		}
		at = append(at, len(all))
		all = append(all, line)
	}
	return all, at
}

func TestSilentLinesChangeNothing(t *testing.T) { // P30.3
	silent := []string{"", " ", "\t \t", "#", "# make 1 1 1024 2 1 1", "\t#crash 0 -"}
	for seed := range int64(60) {
		lines := someTalk(3000+seed, 120)
		all, _ := woven(rand.New(rand.NewSource(seed)), lines, silent)
		runs(t, textOf(all), textOf(answers(lines)...))
	}
}

// sameAmong has lines answer alike with others among them.
func sameAmong(t *testing.T, seed int64, lines, others []string) {
	t.Helper()
	want := answers(lines)
	all, at := woven(rand.New(rand.NewSource(seed)), lines, others)
	got := answers(all)
	for i, line := range lines {
		if !slices.Equal(got[at[i]], want[i]) {
			t.Fatalf("seed %d, line %d: %q: %q, without the others %q", seed, i, line, got[at[i]], want[i])
		}
	}
}

func TestQuestionsChangeNothing(t *testing.T) { // P30.4
	for seed := range int64(120) {
		sameAmong(t, seed, someTalk(4000+seed, 120), questions)
	}
	for i, one := range questions {
		for seed := range int64(10) {
			sameAmong(t, seed, someTalk(5000+seed*100+int64(i), 100), []string{one})
		}
	}
}

func TestNoLinesChangeNothing(t *testing.T) { // P30.1: what is refused as a line has done nothing
	bad := []string{"frob", "\n", "crash 0 -\n", "crash 0 1,", "crash 0", "make 2 2 1024 2 2", "make 2 2 1024 2 2 100 1", "make 1 1 1024 1 1 1", "open 2 both", "open 2", "begin 03", "begin -0", "commit", "abort 1", "put 1 1 -1 0", "put 1 1 1", "renew 1", "checkpoint 0", "close 1", "copy 1", "stop", "stop 1 1", "stop x", "delete 1 1", "dump 1", "clean", "Crash 0 -"}
	for seed := range int64(120) {
		sameAmong(t, seed, someTalk(6000+seed, 120), bad)
	}
}

func TestActsOfQuestions(t *testing.T) { // P30.4: they are no acts, of an engine's disk and of one that is left, and kill no disk
	for _, lines := range [][]string{{small, "begin 3", "put 3 8 5 0", "commit 3", "begin 4"}, {small, "begin 3", "put 3 8 5 0", "commit 3", "crash 0 -"}} {
		k := of(t, lines...)
		was := k.answer("acts")
		k.says("stop 1", "ok")
		for range 3 {
			for _, line := range questions {
				k.answer(line)
				k.says("acts", was)
			}
		}
		for _, line := range []string{"renew", "commit 4", "open 2 aries"} {
			if got := k.answer(line); got != isClosed && got != "error 210" && got != "error 1" {
				t.Errorf("%s: %s", line, got)
			}
		}
	}
}

func FuzzRun(f *testing.F) { // P30.2: whatever a text is, Run ends, and each answer's line ends
	f.Add(small + "\nbegin 3\nput 3 8 5 0\ncommit 3\ncrash 0 1,2\nduel 2\nopen 2 choose\ndump\nlog\n")
	f.Add("make 1 1 1024 2 1 1\nstop 3\nrenew\ncopy\nopen 2 aries\nclose\ncrash -1 -\nsound")
	for seed := range int64(5) {
		f.Add(textOf(someTalk(seed, 50)))
	}
	f.Fuzz(func(t *testing.T, text string) {
		got := script.Run(text)
		if got != "" && !strings.HasSuffix(got, "\n") {
			t.Errorf("%q: %q", text, got)
		}
		if script.Run(text) != got {
			t.Errorf("%q: another answer the second time", text)
		}
	})
}
