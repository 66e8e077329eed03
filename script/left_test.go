package script_test

import "testing"

func TestNothingIsThere(t *testing.T) { // P30.1: neither engine nor disk, at first and behind a make that is refused
	for _, k := range []*talk{begun(t), of(t, "make 0 2 1024 2 2 100"), of(t, "# "+small), of(t, small+" 1")} {
		for _, line := range append(append([]string{"open 2 aries", "open 1 choose", "duel 1", "begin 65", "clean 99"}, engineLines...), diskLines...) {
			k.says(line, isClosed)
		}
	}
}

func TestNoEngineIsThere(t *testing.T) { // P30.1: behind crash and close a disk alone; ids and used are not asked of a closed engine
	for _, gone := range []string{"crash 0 -", "close"} {
		k := of(t, small, "begin 3", "put 3 8 5 0", "commit 3", gone)
		for _, line := range engineLines {
			k.says(line, isClosed)
		}
		k.all(
			"acts", k.answer("acts"),
			"sound", "sound 0",
			"log", "1 begin 3\n35 update 1 1 page 0 at 16: 000000000000000000 to 010000000800000005\n91 commit 1 35",
			"duel 2", "same winners 1 losers - undone 0 ends 1",
			"stop 0", "ok",
			"crash 0 -", "ok",
			"crash -1 1", "ok",
			"acts", "acts 0",
			"open 2 aries", "ok winners 1 losers - redone 1 undone 0 ends 1",
		)
	}
}

func TestNoDiskIsLeft(t *testing.T) { // P30.1: an engine alone: open has nothing to open, behind make and behind an open that is ok
	for _, k := range []*talk{of(t, small), of(t, small, "crash 0 -", "open 2 aries"), of(t, small, "copy", "open 3 choose"), of(t, small, "crash 0 -", small), of(t, small, "copy", small)} {
		k.all("open 2 aries", isClosed, "open 1 aries", isClosed, "open 2 both", isNoLine, "begin 3", "ok", "ids", "ids 3", "sound", "sound 0", "log", "", "duel 2", "same winners - losers - undone 0 ends 0")
	}
}

func TestCopied(t *testing.T) { // P30.1: the copy is what open opens; the engine goes on; all else goes by the engine's own disk
	k := of(t, small, "begin 3", "put 3 8 5 0", "commit 3", "copy")
	k.all("ids", "ids", "begin 4", "ok", "put 4 8 6 0", "ok", "commit 4", "ok")
	log := k.answer("log")
	k.all("duel 2", "same winners 1,157 losers - undone 0 ends 1", "dump", "dump 8=6")
	k.all("begin 5", "ok", "open 17 aries", "error 260", "ids", "ids 5", "log", log) // refused: the engine and the copy stay
	k.all("open 2 aries", "ok winners 1 losers - redone 1 undone 0 ends 1", "ids", "ids", "dump", "dump 8=5", "open 2 aries", isClosed)
}

func TestCopyOfWhatIsLoose(t *testing.T) { // P30.1: a copy has what is loose, too; it is not dead, and counts its own acts
	k := cutAtTheSync(t)
	k.all("copy", "ok", "ids", k.answer("ids"), "begin 1", "error 1", "commit 3", "error 1")
	k.all("open 2 choose", "ok winners 1 losers - redone 1 undone 0 ends 1", "dump", "dump 8=5")
	k = of(t, small)
	k.all("stop 1", "ok", "copy", "ok", "renew", "error 1", "open 2 aries", silent, "renew", "ok")
	k = of(t, small, "copy", "stop 1")
	k.all("open 2 aries", silent, "renew", "ok")
}

func TestTheLatestIsLeft(t *testing.T) { // P30.1: copy, close and crash each leave theirs in the place of the one before
	base := []string{small, "begin 3", "put 3 8 5 0", "commit 3", "copy", "begin 3", "put 3 8 6 0", "commit 3"}
	of(t, base...).all("open 2 aries", "ok winners 1 losers - redone 1 undone 0 ends 1", "dump", "dump 8=5")
	want := "ok winners 1,157 losers - redone 2 undone 0 ends 1"
	of(t, append(base, "copy", "begin 4")...).all("open 2 aries", want, "dump", "dump 8=6", "ids", "ids")
	of(t, append(base, "close")...).all("open 2 aries", want, "dump", "dump 8=6")
	of(t, append(base, "crash 0 -")...).all("open 2 aries", want, "dump", "dump 8=6")
}

func TestOpenIsRefused(t *testing.T) { // P30.1: it leaves the disk that is left, and the engine that is there
	k := of(t, small, "begin 3", "put 3 8 5 0", "commit 3", "crash 0 -")
	for _, line := range []string{"open 1 aries", "open 17 choose", "open 2 both", "open 2"} {
		k.answer(line)
		k.all("dump", isClosed, "acts", "acts 0", "duel 2", "same winners 1 losers - undone 0 ends 1")
	}
	k.all("open 2 aries", "ok winners 1 losers - redone 1 undone 0 ends 1", "dump", "dump 8=5")
	for n := 1; ; n++ { // the disk dies within the open: it is there still, and dead; a crash of it is opened
		k := of(t, small, "begin 3", "put 3 8 5 0", "commit 3", "begin 4", "put 4 7 5 0", "checkpoint", "crash 0 -", "stop "+decimal(n))
		got := k.answer("open 2 choose")
		if got == "ok winners 1 losers 157 redone 1 undone 1 ends 1" {
			if n < 15 {
				t.Errorf("an open of %d acts", n)
			}
			break
		}
		k.all("acts", "acts "+decimal(n-1), "open 2 aries", "error 1", "dump", isClosed, "sound", "sound 0", "crash 0 -", "ok")
		if got != "error 1" || k.answer("open 2 aries")[:2] != "ok" {
			t.Fatalf("stop %d: %q", n, got)
		}
		k.says("dump", "dump 8=5")
	}
}

func decimal(n int) string {
	if n < 10 {
		return string(rune('0' + n))
	}
	return decimal(n/10) + decimal(n%10)
}

func TestMakeIsRefused(t *testing.T) { // P30.1: it leaves all as it was: the engine, what is left, the config
	k := of(t, "make 2 2 1024 2 1 10", "begin 3", "copy")
	k.all("make 3 3 2048 1 8 100", "error 260", "make 3 3 2048 3 8", isNoLine, "ids", "ids 3", "get 3 9 0", "none", "get 3 10 0", "error 50", "commit 3", "ok")
	k.all("open 2 aries", silent, "begin 1", "ok", "begin 2", "error 161", "get 1 9 0", "none", "get 1 10 0", "error 50", "clean 2", "error 61")
	k.all("crash 0 -", "ok", "make 3 3 2048 1 8 100", "error 260", "ids", isClosed, "open 2 aries", silent, "begin 1", "ok", "begin 2", "error 161")
}

func TestMakeAnew(t *testing.T) { // P30.1: the engine that was there is gone, and what was left
	k := of(t, small, "begin 3", "put 3 8 5 0", "commit 3", "begin 3", "copy")
	k.all("make 1 1 2048 3 1 10", "ok", "ids", "ids", "dump", "dump", "used", "used 0 0", "log", "", "open 2 aries", isClosed)
	k.all("crash 0 -", "ok", small, "ok", "open 2 aries", isClosed, "crash 0 -", "ok", "open 2 aries", silent, "begin 1", "ok", "begin 2", "ok", "get 1 99 0", "none")
}

func TestClosed(t *testing.T) { // P30.1: close leaves the engine's disk itself, with its acts, its stop, and what is loose; nothing is written
	k := of(t, small, "begin 3", "put 3 8 5 0")
	acts, log := k.answer("acts"), k.answer("log")
	k.all("close", "ok", "close", isClosed, "acts", acts, "log", log, "open 2 aries", silent, "dump", "dump")
	k = cutAtTheSync(t)
	k.all("close", "ok", "open 2 aries", "error 1", "crash -1 -", "ok", "open 2 aries", "ok winners 1 losers - redone 1 undone 0 ends 1")
	k = of(t, small, "stop 1", "close")
	k.all("open 2 aries", "error 1", "crash 0 -", "ok", "open 2 aries", silent)
}

func TestCrashed(t *testing.T) { // P30.1: the disk that crashes is the engine's own, else the one that is left; the new one is what is left
	k := of(t, small, "begin 3", "put 3 8 5 0", "commit 3", "copy", "begin 3", "put 3 8 6 0", "clean 0")
	k.all("crash 0 -", "ok", "ids", isClosed, "acts", "acts 0", "duel 2", "same winners 1 losers 157 undone 1 ends 1")
	k.all("crash 0 -", "ok", "open 2 choose", "ok winners 1 losers 157 redone 0 undone 1 ends 1", "dump", "dump 8=5")
	k = of(t, small, "begin 3", "crash 0 -")
	k.all("log", "", "open 2 aries", silent, "begin 3", "ok")
}
