package record

import (
	"tidemark/api"
	"tidemark/octet"
)

// reader takes what a kind has behind Birth and Prev.
type reader func(s source, r *api.Record)

// readers gives the kinds' readers, by kind. No kind is 0: nil stands there.
func readers() []reader {
	return []reader{
		api.KBegin:  takeBegin,
		api.KUpdate: takeUpdate,
		api.KUndo:   takeUndo,
		api.KCommit: takeNothing,
		api.KAbort:  takeNothing,
		api.KEnd:    takeNothing,
		api.KCheck:  takeCheck,
	}
}

// take takes a record that is all of the bytes; it gives up where there is none of that form.
func take(s source) api.Record {
	r := api.Record{Kind: s.number(1)}
	known := readers()
	if r.Kind < api.KBegin || r.Kind >= len(known) {
		giveUp(api.ErrRecord)
	}
	r.Birth = s.eight()
	r.Prev = s.eight()
	known[r.Kind](s, &r)
	giveUp(s.rest.End())
	return r
}

func takeBegin(s source, r *api.Record) { r.Id = s.number(1) }

func takeUpdate(s source, r *api.Record) {
	n := takeRange(s, r)
	r.Before = s.row(n)
	r.After = s.row(n)
}

func takeUndo(s source, r *api.Record) {
	n := takeRange(s, r)
	r.After = s.row(n)
	r.Next = s.eight()
}

func takeNothing(source, *api.Record) {}

func takeCheck(s source, r *api.Record) {
	for range s.number(1) {
		r.Rows = append(r.Rows, api.Row{Birth: s.eight(), Id: s.number(1), State: s.number(1), Last: s.eight(), Next: s.eight()})
	}
	for range s.number(1) {
		r.Dirty = append(r.Dirty, api.Rec{Page: s.number(1), Lsn: s.eight()})
	}
}

// takeRange takes where a change lies, and tells how many bytes it has.
func takeRange(s source, r *api.Record) int {
	r.Page = s.number(1)
	r.From = s.number(2)
	return s.number(2)
}

// source is bytes that are taken one behind the other; each call gives up where they end early.
type source struct{ rest *octet.Reader }

// number takes a number of 1 or 2 bytes.
func (s source) number(width int) int {
	n, e := s.rest.Number(width)
	giveUp(e)
	return int(n)
}

// eight takes a number of 8 bytes, and gives up if it is above MaxLsn.
func (s source) eight() int {
	n, e := s.rest.Int()
	giveUp(e)
	return n
}

func (s source) row(n int) []byte {
	b, e := s.rest.Row(n)
	giveUp(e)
	return b
}

// giveUp ends Parse at an error, from however deep inside: Parse recovers.
func giveUp(e api.Errno) {
	if e != api.OK {
		panic(e)
	}
}
