package look_test

import (
	"bytes"
	"math/rand"
	"slices"
	"testing"

	"tidemark/api"
	"tidemark/look"
	"tidemark/record"
)

// after gives all records of a few that may stand behind these lines, right or wrong.
func after(lines []line) []api.Record {
	list := []api.Record{begin(1), begin(2), checkpoint(nil), checkpoint(nil, api.Rec{Page: 0, Lsn: 1})}
	if rows := history(lines).rows(); len(rows) > 0 && record.Size(checkpoint(rows)) > 0 {
		list = append(list, checkpoint(rows, api.Rec{Page: 1, Lsn: rows[0].Birth}))
	}
	for _, b := range lines {
		if b.r.Kind != 1 {
			continue
		}
		for _, p := range lines {
			if p.lsn != b.lsn && p.r.Birth != b.lsn { // another's
				continue
			}
			list = append(list, update(b.lsn, p.lsn, 0, 16), update(b.lsn, p.lsn, 1, 31), commit(b.lsn, p.lsn), abort(b.lsn, p.lsn), end(b.lsn, p.lsn))
			list = append(list, undo(b.lsn, p.lsn, 0, 16, 0), undo(b.lsn, p.lsn, 1, 31, 0))
			for _, u := range history(lines).own(b.lsn).of(2) {
				list = append(list, undo(b.lsn, p.lsn, u.r.Page, u.r.From, u.lsn))
			}
		}
	}
	return list
}

// P22.2, P22.3: all logs of up to five records of a few, against the second telling.
func TestAllShortLogs(t *testing.T) {
	counts := map[int]int{}
	logs := [][]api.Record{nil}
	for range 5 {
		var right [][]api.Record
		for _, records := range logs {
			_, lines, _ := logOf(0, records...)
			for _, r := range after(lines) {
				longer := append(slices.Clone(records), r)
				log, lines, _ := logOf(0, longer...)
				rule := agrees(t, log, lines, 0, 0, 2, 1)
				if t.Failed() {
					t.Fatalf("%v", longer)
				}
				counts[rule]++
				if rule == 0 {
					right = append(right, longer)
				}
			}
		}
		logs = right
	}
	for rule, least := range map[int]int{0: 2000, 1: 1000, 2: 1000, 3: 500, 4: 1000, 5: 300, 6: 100, 7: 1000} {
		if counts[rule] < least {
			t.Errorf("rule %d: only %d logs", rule, counts[rule])
		}
	}
}

// source makes records at random, most of which keep the rules.
type source struct {
	*rand.Rand
	base, pages, slots int
	lines              []line
	records            []api.Record
	next               int // LSN
}

func (s *source) put(r api.Record) {
	s.lines = append(s.lines, line{s.next, r})
	s.records = append(s.records, r)
	s.next += record.Size(r) + 16
}

// change gives an update's bytes at random.
func (s *source) change(w api.Row) api.Record {
	n := 1 + s.Intn(1+s.Intn(16*s.slots))
	r := wide(w.Birth, w.Last, s.Intn(s.pages), 16, n)
	r.From += s.Intn(16*s.slots - n + 1)
	s.Read(r.Before)
	for i, b := range r.Before {
		r.After[i] = b ^ byte(1+s.Intn(255))
	}
	return r
}

// take gives the compensation of the update that a row has left last, or an abort.
func (s *source) take(w api.Row) api.Record {
	left := history(s.lines).left(w.Birth)
	if len(left) == 0 {
		return abort(w.Birth, w.Last)
	}
	u := left[len(left)-1].r
	r := api.Record{Kind: 3, Birth: w.Birth, Prev: w.Last, Page: u.Page, From: u.From, After: u.Before}
	if len(left) > 1 {
		r.Next = left[len(left)-2].lsn
	}
	return r
}

// checks gives a checkpoint.
func (s *source) checks(rows []api.Row) api.Record {
	r := checkpoint(rows)
	for page := range s.pages {
		if s.Intn(3) == 0 {
			r.Dirty = append(r.Dirty, api.Rec{Page: page, Lsn: s.base + 1 + s.Intn(s.next-s.base)})
		}
	}
	return r
}

// guess gives a record that may stand next, or may not.
func (s *source) guess() api.Record {
	rows := history(s.lines).rows()
	if len(rows) == 0 || s.Intn(5) == 0 {
		return begin(1 + s.Intn(12))
	}
	w := rows[s.Intn(len(rows))]
	switch s.Intn(16) {
	case 0:
		return commit(w.Birth, w.Last)
	case 1:
		return abort(w.Birth, w.Last)
	case 2, 3, 4:
		return end(w.Birth, w.Last)
	case 5, 6, 7, 8:
		return s.take(w)
	case 9, 10:
		return s.checks(rows)
	}
	return s.change(w)
}

// turned gives a record with one field that is another.
func (s *source) turned(r api.Record) api.Record {
	lsn := func() int { return s.lines[s.Intn(len(s.lines))].lsn + s.Intn(3)/2 }
	r.Before, r.After, r.Rows, r.Dirty = bytes.Clone(r.Before), bytes.Clone(r.After), slices.Clone(r.Rows), slices.Clone(r.Dirty)
	switch s.Intn(12) {
	case 0:
		r.Kind = 1 + s.Intn(7)
	case 1:
		r.Id = 1 + s.Intn(12)
	case 2:
		r.Birth = lsn()
	case 3:
		r.Prev = lsn()
	case 4:
		r.Page = s.Intn(16)
	case 5:
		r.From += s.Intn(5) - 2
	case 6:
		r.Next = lsn() * s.Intn(2)
	case 7:
		if len(r.After) > 0 {
			r.After[s.Intn(len(r.After))] ^= byte(1 + s.Intn(255))
		}
	case 8:
		if len(r.Rows) > 0 {
			w := &r.Rows[s.Intn(len(r.Rows))]
			*[]*int{&w.Birth, &w.Id, &w.State, &w.Last, &w.Next}[s.Intn(5)] += s.Intn(3) - 1
		}
	case 9:
		if len(r.Rows) > 0 {
			r.Rows = r.Rows[:len(r.Rows)-1]
		}
	case 10:
		if len(r.Dirty) > 0 {
			r.Dirty[s.Intn(len(r.Dirty))].Lsn = []int{s.base, s.base + 1, s.next, s.next + 1, lsn()}[s.Intn(5)]
		}
	case 11:
		if len(r.Dirty) > 0 {
			r.Dirty[len(r.Dirty)-1].Page = s.Intn(16)
		}
	}
	return r
}

// made gives a right log of so many records.
func made(seed int64, records int) *source {
	s := &source{Rand: rand.New(rand.NewSource(seed))}
	s.base = []int{0, 1, 300, 1 << 32, mostBase, s.Intn(1 << 40)}[s.Intn(6)]
	s.pages, s.slots, s.next = 1+s.Intn(6), 1+s.Intn(3), s.base+1
	for len(s.records) < records {
		r := s.guess()
		if record.Size(r) > 0 && history(s.lines).broken(line{s.next, r}, s.base, s.pages, s.slots) == 0 {
			s.put(r)
		}
	}
	return s
}

// upTo gives the first records alone.
func (s *source) upTo(n int) *source {
	first := *s
	first.lines, first.records, first.next = s.lines[:n:n], s.records[:n:n], s.lines[n].lsn
	return &first
}

// checkOf gives 0, the LSN of a checkpoint, or another's.
func (s *source) checkOf(lines []line) int {
	checks := history(lines).of(7)
	switch {
	case s.Intn(3) == 0 || len(lines) == 0:
		return 0
	case len(checks) > 0 && s.Intn(4) > 0:
		return checks[s.Intn(len(checks))].lsn
	}
	return lines[s.Intn(len(lines))].lsn + s.Intn(2)
}

// P22.2 to P22.4: right logs at random, and these with a record that is another, against the second telling.
func TestRandomLogs(t *testing.T) {
	counts := map[int]int{}
	for seed := range int64(250) {
		s := made(seed, 10+int(seed)%30)
		log, lines, _ := logOf(s.base, s.records...)
		for _, c := range []int{0, s.checkOf(lines), s.checkOf(lines), s.checkOf(lines)} {
			counts[agrees(t, log, lines, s.base, c, s.pages, s.slots)]++
		}
		got, e := look.Analyse(log, s.base, 0, s.pages, s.slots)
		if e != api.OK {
			t.Fatalf("seed %d: %d", seed, e)
		}
		follows(t, log, s.base, got)
		for range 30 {
			other := slices.Clone(s.records)
			i := s.Intn(len(other))
			other[i] = s.turned(other[i])
			log, lines, are := logOf(s.base, other...)
			if are {
				counts[agrees(t, log, lines, s.base, s.checkOf(lines), s.pages, s.slots)]++
			}
		}
		for range 15 { // one more, as it comes
			ahead := s.upTo(s.Intn(len(lines)))
			if log, lines, are := logOf(s.base, append(ahead.records, ahead.guess())...); are {
				counts[agrees(t, log, lines, s.base, 0, s.pages, s.slots)]++
			}
		}
		counts[agrees(t, log, lines, s.base, 0, 1+s.Intn(s.pages), 1+s.Intn(s.slots))]++
		if t.Failed() {
			t.Fatalf("seed %d", seed)
		}
	}
	for rule, least := range map[int]int{0: 3000, 1: 100, 2: 300, 3: 300, 4: 100, 5: 200, 6: 50, 7: 100, 8: 300} {
		if counts[rule] < least {
			t.Errorf("rule %d: only %d logs", rule, counts[rule])
		}
	}
}

// P22.4: of right logs at random each of the first bytes is taken, and what wins there wins in the whole.
func TestRandomLogsCut(t *testing.T) {
	for seed := range int64(20) {
		s := made(1000+seed, 40)
		log, _, _ := logOf(s.base, s.records...)
		whole, _ := look.Analyse(log, s.base, 0, s.pages, s.slots)
		were := 0
		for cut := range len(log) + 1 {
			got, e := look.Analyse(log[:cut], s.base, 0, s.pages, s.slots)
			if e != api.OK || got.Bytes > cut || len(got.Winners) < were {
				t.Fatalf("seed %d, %d bytes: %+v, %d", seed, cut, got, e)
			}
			were = len(got.Winners)
			for _, b := range got.Winners {
				if !slices.Contains(whole.Winners, b) {
					t.Fatalf("seed %d, %d bytes: the winner %d is none of %v", seed, cut, b, whole.Winners)
				}
			}
		}
	}
}

// DOC.md, rule 1: whatever the bytes are, an answer comes, OK or ErrCorrupt; with a byte turned the beginning is shorter.
func TestAnyBytes(t *testing.T) { // P22.1 to P22.4
	s := made(5, 40)
	log, lines, _ := logOf(s.base, s.records...)
	for i := range log {
		b := slices.Clone(log)
		b[i] ^= byte(1 + s.Intn(255))
		n, size := 0, 0
		for n < len(lines) && size+record.Size(lines[n].r)+16 <= i {
			size += record.Size(lines[n].r) + 16
			n++
		}
		want, _, _ := analyse(lines[:n], s.base, size, 0, s.pages, s.slots)
		takes(t, "a turned byte", b, s.base, 0, s.pages, s.slots, want)
	}
	for range 20000 {
		b := make([]byte, s.Intn(200))
		s.Read(b)
		if s.Intn(2) == 0 {
			b = slices.Concat(log[:s.Intn(len(log))], b)
		}
		base, check := []int{0, s.base, s.Int(), -s.Int()}[s.Intn(4)], []int{0, 0, s.Int(), -s.Int()}[s.Intn(4)]
		got, e := look.Analyse(b, base, check, s.Intn(20)-2, s.Intn(12)-2)
		if e != api.OK && e != corrupt || e == api.OK && (got.Bytes > len(b) || got.Redo <= base) {
			t.Fatalf("%+v, %d", got, e)
		}
	}
}
