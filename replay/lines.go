package replay

import (
	"iter"
	"strconv"
	"strings"

	"tidemark/api"
	"tidemark/scan"
)

// hexDigits stand at the places that they mean.
const hexDigits = "0123456789abcdef"

// Lines gives a line a record.
func Lines(log []byte, base int) iter.Seq[string] {
	records := scan.Each(log, base) // asked now: it goes by the log as it is at this call
	return func(yield func(string) bool) {
		for lsn, r := range records {
			if !yield(line(lsn, r)) {
				return
			}
		}
	}
}

// Text gives all lines.
func Text(log []byte, base int) string {
	var b strings.Builder
	for l := range Lines(log, base) {
		b.WriteString(l)
		b.WriteByte('\n')
	}
	return b.String()
}

// line tells a record in words.
func line(lsn int, r api.Record) string {
	return strconv.Itoa(lsn) + " " + deed(r)
}

// deed tells what a record says.
func deed(r api.Record) string {
	switch r.Kind {
	case api.KBegin:
		return "begin" + numbers(r.Id)
	case api.KUpdate:
		return "update" + place(r) + hex(r.Before) + " to " + hex(r.After)
	case api.KUndo:
		return "undo" + place(r) + hex(r.After) + " next" + numbers(r.Next)
	case api.KCommit:
		return "commit" + numbers(r.Birth, r.Prev)
	case api.KAbort:
		return "abort" + numbers(r.Birth, r.Prev)
	case api.KEnd:
		return "end" + numbers(r.Birth, r.Prev)
	}
	return checkpoint(r) // a log's records have no other kind
}

// place tells whose a change is, and where it lies.
func place(r api.Record) string {
	return numbers(r.Birth, r.Prev) + " page" + numbers(r.Page) + " at" + numbers(r.From) + ": "
}

func checkpoint(r api.Record) string {
	var b strings.Builder
	b.WriteString("check")
	for _, w := range r.Rows {
		b.WriteString(" row" + numbers(w.Birth, w.Id) + state(w.State) + numbers(w.Last, w.Next))
	}
	for _, d := range r.Dirty {
		b.WriteString(" rec" + numbers(d.Page, d.Lsn))
	}
	return b.String()
}

// state names a row's state, with a blank ahead; a checkpoint's rows have no third one.
func state(s int) string {
	if s == api.SOpen {
		return " open"
	}
	return " aborting"
}

// numbers tells numbers, each with a blank ahead.
func numbers(list ...int) string {
	var b strings.Builder
	for _, n := range list {
		b.WriteByte(' ')
		b.WriteString(strconv.Itoa(n))
	}
	return b.String()
}

// hex tells each byte in two digits.
func hex(list []byte) string {
	var b strings.Builder
	for _, x := range list {
		b.WriteByte(hexDigits[x>>4])
		b.WriteByte(hexDigits[x&15])
	}
	return b.String()
}
