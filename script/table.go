package script

import (
	"strconv"
	"strings"

	"tidemark/api"
)

// What must be there for a command to be done.
const (
	wantsNothing = iota
	wantsLeft    // a disk that is left
	wantsEngine
	wantsDisk // an engine's, or else the one that is left
)

// command is a row of the table. Its form has a letter for each word behind the name: N a number, V a value, M a manager, L a list of numbers.
type command struct {
	name, form string
	wants      int
}

var commands = [...]command{
	{"make", "NNNNNN", wantsNothing},
	{"open", "NM", wantsLeft},
	{"begin", "N", wantsEngine},
	{"get", "NNN", wantsEngine},
	{"put", "NNVN", wantsEngine},
	{"delete", "NNN", wantsEngine},
	{"commit", "N", wantsEngine},
	{"abort", "NN", wantsEngine},
	{"checkpoint", "", wantsEngine},
	{"renew", "", wantsEngine},
	{"clean", "N", wantsEngine},
	{"dump", "", wantsEngine},
	{"ids", "", wantsEngine},
	{"used", "", wantsEngine},
	{"copy", "", wantsEngine},
	{"close", "", wantsEngine},
	{"stop", "N", wantsDisk},
	{"acts", "", wantsDisk},
	{"crash", "NL", wantsDisk},
	{"sound", "", wantsDisk},
	{"log", "", wantsDisk},
	{"duel", "N", wantsDisk},
}

// rest is what stands behind a command's name; numbers has as many as its form has N.
type rest struct {
	numbers []int
	value   uint64
	manager int
	list    []int
}

// understood finds the row of a line's first word, and reads the others by its form.
func understood(words []string) (command, rest, bool) {
	for _, c := range commands {
		if c.name == words[0] {
			given, ok := read(c.form, words[1:])
			return c, given, ok
		}
	}
	return command{}, rest{}, false
}

func read(form string, words []string) (rest, bool) {
	var given rest
	if len(words) != len(form) {
		return given, false
	}
	for i, word := range words {
		if !given.take(form[i], word) {
			return given, false
		}
	}
	return given, true
}

// take reads one word by its letter.
func (r *rest) take(letter byte, word string) bool {
	ok := false
	switch letter {
	case 'N':
		var n int
		n, ok = number(word)
		r.numbers = append(r.numbers, n)
	case 'V':
		r.value, ok = value(word)
	case 'M':
		r.manager, ok = manager(word)
	case 'L':
		r.list, ok = list(word)
	}
	return ok
}

// number reads a word that stands just as the number would be told: so zeros ahead of others, -0 and signs of other kinds are none.
func number(word string) (int, bool) {
	n, err := strconv.ParseInt(word, 10, 32)
	return int(n), err == nil && strconv.FormatInt(n, 10) == word
}

func value(word string) (uint64, bool) {
	n, err := strconv.ParseUint(word, 10, 64)
	return n, err == nil && strconv.FormatUint(n, 10) == word
}

func manager(word string) (int, bool) {
	switch word {
	case "aries":
		return api.Aries, true
	case "choose":
		return api.Choose, true
	}
	return 0, false
}

func list(word string) ([]int, bool) {
	if word == "-" {
		return nil, true
	}
	var all []int
	for _, part := range strings.Split(word, ",") {
		n, ok := number(part)
		if !ok {
			return nil, false
		}
		all = append(all, n)
	}
	return all, true
}

// isBlank: other bytes that look like blanks belong to words.
func isBlank(r rune) bool { return r == '\t' || r == ' ' }
