package script_test

import (
	"strings"
	"testing"

	"tidemark/script"
)

// talk is a session whose answers are looked at.
type talk struct {
	t *testing.T
	s *script.Session
}

func begun(t *testing.T) *talk { return &talk{t: t, s: script.New()} }

// of gives a talk behind lines, whatever they answer.
func of(t *testing.T, lines ...string) *talk {
	k := begun(t)
	for _, line := range lines {
		k.s.Do(line)
	}
	return k
}

// says has a line answer so: lines parted by byte 10, none at all: "".
func (k *talk) says(line, want string) {
	k.t.Helper()
	if got := k.answer(line); got != want {
		k.t.Errorf("%q: %q, want %q", line, got, want)
	}
}

// all goes through pairs of a line and its answer.
func (k *talk) all(pairs ...string) {
	k.t.Helper()
	for i := 0; i < len(pairs); i += 2 {
		k.says(pairs[i], pairs[i+1])
	}
}

func (k *talk) answer(line string) string { return strings.Join(k.s.Do(line), "\n") }

const small = "make 2 2 1024 2 2 100"

const (
	silent    = "ok winners - losers - redone 0 undone 0 ends 0" // what an open tells where nothing was to be done
	isClosed  = "error 262"
	isNoLine  = "error 300"
	isTooLong = "error 301\n"
)

// engineLines and diskLines want an engine, or a disk; questions are those that change nothing.
var (
	engineLines = []string{"begin 3", "get 3 8 0", "put 3 8 5 0", "delete 3 8 0", "commit 3", "abort 3 0", "checkpoint", "renew", "clean 0", "dump", "ids", "used", "copy", "close"}
	diskLines   = []string{"sound", "log", "duel 2", "stop 0", "acts", "crash 0 -"}
	questions   = []string{"ids", "used", "acts", "sound", "log", "duel 2", "duel 16", "duel 1"}
)
