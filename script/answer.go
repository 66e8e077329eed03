package script

import (
	"strconv"
	"strings"

	"tidemark/api"
	"tidemark/duel"
)

func refusal(f api.Errno) []string { return []string{told("error", int(f))} }

// done is the answer of a call that tells its error alone.
func done(f api.Errno) []string {
	if f != api.OK {
		return refusal(f)
	}
	return []string{"ok"}
}

// told is a name, then each number, a blank ahead.
func told(name string, numbers ...int) string {
	var b strings.Builder
	b.WriteString(name)
	for _, n := range numbers {
		b.WriteString(" " + strconv.Itoa(n))
	}
	return b.String()
}

func gotLine(value uint64, there bool, f api.Errno) []string {
	if f != api.OK {
		return refusal(f)
	}
	if !there {
		return []string{"none"}
	}
	return []string{"value " + strconv.FormatUint(value, 10)}
}

func deletedLine(gone bool, f api.Errno) []string {
	if f == api.OK && !gone {
		return []string{"none"}
	}
	return done(f)
}

func dumpLine(all []api.Entry, f api.Errno) []string {
	if f != api.OK {
		return refusal(f)
	}
	var b strings.Builder
	b.WriteString("dump")
	for _, x := range all {
		b.WriteString(" " + strconv.Itoa(x.Key) + "=" + strconv.FormatUint(x.Value, 10))
	}
	return []string{b.String()}
}

func openedLine(r api.Report) []string {
	return []string{"ok " + whose(r) + told(" redone", r.Redone) + ended(r)}
}

func duelLine(v duel.Verdict, f api.Errno) []string {
	if f != api.OK {
		return refusal(f)
	}
	how := "differ "
	if v.Same {
		how = "same "
	}
	return []string{how + whose(v.A) + ended(v.A)}
}

func whose(r api.Report) string {
	return "winners " + births(r.Winners) + " losers " + births(r.Losers)
}

func ended(r api.Report) string { return told(" undone", r.Undone) + told(" ends", r.Ends) }

// births are parted by commas; none are a minus, so that a word is there.
func births(all []int) string {
	if len(all) == 0 {
		return "-"
	}
	parts := make([]string, 0, len(all))
	for _, n := range all {
		parts = append(parts, strconv.Itoa(n))
	}
	return strings.Join(parts, ",")
}
