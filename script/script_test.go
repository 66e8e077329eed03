package script_test

import (
	"slices"
	"strings"
	"testing"

	"tidemark/script"
)

func TestFirstExample(t *testing.T) { // P30.1: example 1
	begun(t).all(
		small, "ok",
		"begin 3", "ok",
		"put 3 8 5 0", "ok",
		"get 3 8 0", "value 5",
		"dump", "error 210",
		"commit 3", "ok",
		"dump", "dump 8=5",
		"used", "used 156 0",
		"crash 0 -", "ok",
		"dump", isClosed,
		"open 2 choose", "ok winners 1 losers - redone 1 undone 0 ends 1",
		"dump", "dump 8=5",
	)
}

func TestSecondExample(t *testing.T) { // P30.1: example 2
	of(t, small).all(
		"open 2 both", isNoLine,
		"begin", isNoLine,
		"begin 03", isNoLine,
		"begin 65", "error 160",
		"put 3 8 -1 0", isNoLine,
	)
}

func TestThirdExample(t *testing.T) { // P30.1: example 3
	of(t, small, "begin 3", "put 3 8 5 0", "commit 3", "crash 0 -").says("duel 2", "same winners 1 losers - undone 0 ends 1")
	begun(t).all(
		"make 1 2 2588 4 3 2", "ok",
		"begin 3", "ok",
		"begin 2", "ok",
		"commit 2", "ok",
		"commit 3", "ok",
		"duel 2", "same winners 1,35 losers - undone 0 ends 1",
	)
}

func TestFourthExample(t *testing.T) { // P30.1, P30.2: example 4
	begun(t).says("# no", "")
	if got := script.Run(""); got != "" {
		t.Errorf("Run of nothing: %q", got)
	}
}

func TestTransactions(t *testing.T) { // P30.1: begin, get, put, delete, commit, abort, ids, used, dump: each number where it belongs
	of(t, "make 2 2 4096 2 2 100").all(
		"ids", "ids",
		"used", "used 0 0",
		"dump", "dump",
		"begin 3", "ok",
		"begin 64", "ok",
		"begin 3", "error 160",
		"begin 5", "error 161",
		"ids", "ids 3 64",
		"used", "used 68 198",
		"put 3 8 18446744073709551615 0", "ok",
		"get 3 8 5", "value 18446744073709551615",
		"get 3 10 -5", "none",
		"get 64 8 0", "error 150",
		"put 64 10 1 0", "error 150",
		"delete 64 12 0", "error 150",
		"get 64 7 0", "none",
		"put 64 7 0 0", "ok",
		"get 64 7 0", "value 0",
		"get 3 100 0", "error 50",
		"put 3 -1 0 0", "error 50",
		"get 4 100 0", "error 160",
		"put 3 10 1 0", "ok",
		"put 3 12 1 0", "error 42",
		"delete 3 8 0", "ok",
		"delete 3 8 0", "none",
		"put 3 12 4 0", "ok",
		"commit 4", "error 160",
		"abort 4 0", "error 160",
		"commit 3", "ok",
		"ids", "ids 64",
		"dump", "error 210",
		"abort 64 -7", "ok",
		"dump", "dump 10=1 12=4",
		"begin 1", "ok",
		"put 1 99 3 1", "ok",
		"put 1 0 9 1", "error 42",
		"delete 1 10 0", "ok",
		"put 1 0 9 1", "ok",
		"commit 1", "ok",
		"dump", "dump 0=9 12=4 99=3",
	)
}

func TestLogAndPages(t *testing.T) { // P30.1: checkpoint, renew, clean
	of(t, small).all(
		"begin 3", "ok",
		"put 3 8 5 0", "ok",
		"log", "",
		"clean 2", "error 61",
		"clean -1", "error 61",
		"clean 1", "ok",
		"log", "",
		"clean 0", "ok",
		"log", "1 begin 3\n35 update 1 1 page 0 at 16: 000000000000000000 to 010000000800000005",
		"renew", "error 210",
		"checkpoint", "ok",
		"log", "1 begin 3\n35 update 1 1 page 0 at 16: 000000000000000000 to 010000000800000005\n91 check row 1 3 open 35 35",
		"abort 3 0", "ok",
		"used", "used 272 0",
		"checkpoint", "ok",
		"log", "1 begin 3\n35 update 1 1 page 0 at 16: 000000000000000000 to 010000000800000005\n91 check row 1 3 open 35 35\n"+
			"152 abort 1 35\n185 undo 1 152 page 0 at 16: 000000000000000000 next 0\n240 end 1 185\n273 check rec 0 185",
		"renew", "ok",
		"used", "used 0 0",
		"log", "",
		"begin 4", "ok",
		"commit 4", "ok",
		"log", "317 begin 4\n351 commit 317 317",
	)
}

func TestRoomless(t *testing.T) { // P30.1: a put that meets ErrLog has aborted its transaction
	k := of(t, small, "begin 3", "put 3 8 5 0", "commit 3", "begin 3")
	n := 0
	for ; n < 100 && k.answer("put 3 8 "+strings.Repeat("9", 1+n%2)+" 0") == "ok"; n++ {
	}
	if n < 5 {
		t.Fatalf("%d puts", n)
	}
	k.all("ids", "ids", "get 3 8 0", "error 160", "dump", "dump 8=5", "begin 1", "error 170", "renew", "ok", "begin 1", "ok", "get 1 8 0", "value 5")
}

func TestOpened(t *testing.T) { // P30.1: what an open tells: winners and losers by birth, what was done again, what was undone, who was ended; by either manager
	lines := []string{"make 2 2 4096 2 8 100", "begin 3", "begin 4", "begin 5", "begin 6", "put 3 8 5 0", "put 4 7 6 0", "commit 5", "abort 6 0", "begin 7", "commit 3", "put 4 9 7 0", "checkpoint", "begin 8", "commit 8"}
	for _, c := range []struct{ crash, aries, choose, dump string }{
		{"crash 0 -", "ok winners 1,69,642 losers 35,381 redone 3 undone 2 ends 3", "ok winners 1,69,642 losers 35,381 redone 1 undone 2 ends 3", "dump 8=5"},
		{"crash 1 1", "ok winners 1,69,642 losers 35,381 redone 3 undone 2 ends 3", "ok winners 1,69,642 losers 35,381 redone 1 undone 2 ends 3", "dump 8=5"},
	} {
		k := of(t, append(lines, c.crash)...)
		duel := "same winners 1,69,642 losers 35,381 undone 2 ends 3"
		k.all("duel 2", duel, "sound", "sound 0", "open 2 aries", c.aries, "dump", c.dump, "close", "ok", "duel 3", "same winners - losers - undone 0 ends 0", "open 2 choose", silent, "dump", c.dump)
		of(t, append(lines, c.crash)...).all("duel 16", duel, "open 16 choose", c.choose, "dump", c.dump, "crash -1 1", "ok", "open 2 aries", silent, "dump", c.dump)
	}
}

// cutAtTheSync has a transaction whose commit record is written, and loose: the disk dies as the log is to be synced.
func cutAtTheSync(t *testing.T) *talk {
	t.Helper()
	k := of(t, small)
	k.all("begin 3", "ok", "put 3 8 5 0", "ok", "stop 2", "ok", "commit 3", "error 1")
	return k
}

func TestCrashesOfALooseLog(t *testing.T) { // P30.1: crash has its number and its list be what is left of what is loose; sound and duel go by what lasts, log by what is read
	whole := "1 begin 3\n35 update 1 1 page 0 at 16: 000000000000000000 to 010000000800000005\n91 commit 1 35"
	cutAtTheSync(t).all("log", whole, "duel 2", "same winners - losers - undone 0 ends 0", "sound", "sound 0")
	for _, c := range []struct{ crash, log, opened, dump string }{
		{"crash 0 -", "", silent, "dump"},
		{"crash -1 -", whole, "ok winners 1 losers - redone 1 undone 0 ends 1", "dump 8=5"},
		{"crash 123 0", whole, "ok winners 1 losers - redone 1 undone 0 ends 1", "dump 8=5"},
		{"crash 124 1", "", silent, "dump"},
		{"crash 122 1,2", whole[:strings.LastIndex(whole, "\n")], "ok winners - losers 1 redone 1 undone 1 ends 1", "dump"},
		{"crash 34 -1", "1 begin 3", "ok winners - losers 1 redone 0 undone 0 ends 1", "dump"},
		{"crash -90 -", "1 begin 3", "ok winners - losers 1 redone 0 undone 0 ends 1", "dump"},
		{"crash -91 -", "", silent, "dump"},
	} {
		cutAtTheSync(t).all(c.crash, "ok", "log", c.log, "sound", "sound 0", "open 2 aries", c.opened, "dump", c.dump)
	}
}

// cutRenew has a renew cut at one of its acts: two flush the log, four write page 0 by the pair, two write the master, one cuts the log.
func cutRenew(t *testing.T, act int) *talk {
	t.Helper()
	k := of(t, small, "begin 3", "put 3 8 5 0", "commit 3", "renew", "begin 3", "put 3 8 6 0", "commit 3", "stop "+decimal(act))
	k.says("renew", "error 1")
	return k
}

func TestCrashesOfLooseWrites(t *testing.T) { // P30.1: crash's list says what is left of them, in their order
	log := "157 begin 3\n191 update 157 157 page 0 at 24: 05 to 06\n231 commit 157 191\n264 end 157 231"
	again, kept := "ok winners 157 losers - redone 1 undone 0 ends 0", "ok winners 157 losers - redone 0 undone 0 ends 0"
	for _, c := range []struct {
		act                int
		crash, log, opened string
	}{
		{4, "crash 0 -", log, again}, // the pair is loose
		{4, "crash 0 0", log, again},
		{4, "crash 0 -3", log, again},
		{4, "crash 0 1", log, kept},
		{4, "crash 0 1,0", log, kept},
		{4, "crash 0 0,1", log, again},
		{4, "crash 0 20", log, again}, // torn
		{4, "crash 0 73", log, kept},  // all of its 72 bytes
		{4, "crash 0 74", log, again}, // none of them
		{6, "crash 0 -", log, kept},   // the page is loose, the pair lasts
		{6, "crash 0 1", log, kept},
		{6, "crash 0 20", log, kept},
		{8, "crash 0 -", log, kept}, // the master is loose
		{8, "crash 0 0", log, kept},
		{8, "crash 0 20", log, kept},
		{8, "crash 0 1", "", silent},
		{8, "crash 0 41", "", silent}, // all of its 40 bytes
		{8, "crash 0 42,1", log, kept},
		{9, "crash 0 -", "", silent}, // the log is not cut
	} {
		k := cutRenew(t, c.act)
		k.all("sound", "sound 0", c.crash, "ok", "acts", "acts 0", "sound", "sound 0", "log", c.log, "open 2 choose", c.opened, "dump", "dump 8=6")
	}
	for act, want := range map[int]string{7: log, 8: ""} { // of what is read the newest master says the base
		cutRenew(t, act).says("log", want)
	}
}

func TestDifferentFrames(t *testing.T) { // P30.1: open's frames are its own; shape, table and keys are the last make's
	of(t, "make 3 2 2048 3 4 50", "make 2 1 1024 5 3 40", "make 2 2 1024 2 9 100", "crash 0 -").all(
		"open 1 aries", "error 260", "open 17 aries", "error 260", "open 0 choose", "error 260", "open -2147483648 choose", "error 260",
		"open 16 aries", silent,
		"begin 1", "ok", "begin 2", "ok", "begin 3", "ok", "begin 4", "error 161",
		"get 1 39 0", "none", "get 1 40 0", "error 50",
		"put 1 1 1 0", "ok", "put 1 3 1 0", "error 42", "clean 1", "ok", "clean 2", "error 61",
	)
}

func TestMakes(t *testing.T) { // P30.1: make's numbers, each at its edges
	for _, c := range [][2]string{
		{"make 1 1 1024 2 1 1", "ok"}, {"make 16 8 65536 16 8 1048576", "ok"},
		{"make 0 1 1024 2 1 1", "error 260"}, {"make 17 1 1024 2 1 1", "error 260"},
		{"make 1 0 1024 2 1 1", "error 260"}, {"make 1 9 1024 2 1 1", "error 260"},
		{"make 1 1 1023 2 1 1", "error 260"}, {"make 1 1 65537 2 1 1", "error 260"},
		{"make 1 1 1024 1 1 1", "error 260"}, {"make 1 1 1024 17 1 1", "error 260"},
		{"make 1 1 1024 2 0 1", "error 260"}, {"make 1 1 1024 2 9 1", "error 260"},
		{"make 1 1 1024 2 1 0", "error 260"}, {"make 1 1 1024 2 1 1048577", "error 260"},
		{"make -1 -1 -1 -1 -1 -1", "error 260"},
	} {
		k := begun(t)
		k.says(c[0], c[1])
		want := "ids"
		if c[1] != "ok" {
			want = isClosed
		}
		k.says("ids", want)
	}
}

func TestDuelsFrames(t *testing.T) { // P30.1: a refused duel
	k := of(t, small)
	for _, n := range []string{"-2147483648", "-1", "0", "1", "17", "2147483647"} {
		k.says("duel "+n, "error 140")
	}
	for _, n := range []string{"2", "3", "16"} {
		k.says("duel "+n, "same winners - losers - undone 0 ends 0")
	}
}

func TestActs(t *testing.T) { // P30.1: stop and acts are the disk's
	k := of(t, small, "crash 0 -")
	k.all("acts", "acts 0", "stop 3", "ok", "acts", "acts 0", "open 2 aries", "error 1", "acts", "acts 2", "open 2 aries", "error 1", "acts", "acts 2", "stop 0", "ok", "open 2 aries", "error 1")
	k.all("crash 0 -", "ok", "acts", "acts 0", "stop 3", "ok", "stop 0", "ok", "open 2 aries", silent)
	k.all("stop 1", "ok", "stop -5", "ok", "renew", "ok", "stop 1", "ok", "begin 1", "ok", "commit 1", "error 1", "begin 2", "error 1", "dump", "error 1", "stop 0", "ok", "checkpoint", "error 1")
}

func TestAnswersOfTheirOwn(t *testing.T) { // P30.1: what is answered is new memory, its spare room too
	k := of(t, small, "begin 3", "put 3 8 5 0", "clean 0")
	for _, line := range []string{"ids", "used", "log", "acts", "sound", "duel 2", "get 3 8 0", "dump", "frob", "begin 3"} {
		was := k.answer(line)
		got := k.s.Do(line)
		for i := range got[:cap(got)] {
			got[:cap(got)][i] = "spoilt"
		}
		k.says(line, was)
	}
}

func TestTwoTalks(t *testing.T) { // P30.1: talks have nothing in common
	a, b := of(t, small, "begin 3"), begun(t)
	b.says("ids", isClosed)
	b.all("make 1 1 1024 2 1 1", "ok", "begin 5", "ok", "crash 0 -", "ok")
	a.all("ids", "ids 3", "open 2 aries", isClosed, "crash 0 -", "ok")
	b.all("open 2 aries", silent, "ids", "ids")
	if !slices.Equal(a.s.Do("dump"), []string{isClosed}) {
		t.Errorf("a talk has another's engine")
	}
}
