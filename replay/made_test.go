package replay_test

import (
	"math/rand"
	"slices"
	"testing"

	"tidemark/api"
)

// actor is a transaction of a log that is made at random.
type actor struct {
	birth, id, state int
	left             []int // the LSNs of the updates that are not compensated
}

// maker writes a log at random that look takes.
type maker struct {
	*scroll
	dice         *rand.Rand
	pages, slots int
	there        []*actor // by birth
	holders      map[int]*actor
}

func made(t *testing.T, seed int64, records int) *maker {
	t.Helper()
	dice := rand.New(rand.NewSource(seed))
	base := []int{0, 1, 300, 1 << 32, mostBase}[dice.Intn(5)]
	m := &maker{scroll: scrollAt(t, base), dice: dice, pages: 1 + dice.Intn(6), slots: 1 + dice.Intn(3), holders: map[int]*actor{}}
	for len(m.all) < records {
		m.step()
	}
	return m
}

func (m *maker) step() {
	if len(m.there) == 0 || len(m.there) < 8 && m.dice.Intn(6) == 0 {
		m.beginOne()
		return
	}
	a := m.there[m.dice.Intn(len(m.there))]
	switch k := m.dice.Intn(20); {
	case k == 0:
		m.checkpoint()
	case a.state == api.SCommitted:
		m.endOne(a)
	case a.state == api.SAborting && len(a.left) == 0:
		m.endOne(a)
	case a.state == api.SAborting:
		m.undoOne(a)
	case k < 13:
		m.updateOne(a)
	case k < 17:
		m.commit(a.birth)
		a.state, a.left = api.SCommitted, nil
	case k < 18 && len(a.left) > 0: // without an abort record, as a restart has it
		m.undoOne(a)
	case k < 19:
		m.abort(a.birth)
		a.state = api.SAborting
	case len(a.left) == 0:
		m.endOne(a)
	}
}

func (m *maker) beginOne() {
	id := 1 + m.dice.Intn(64)
	if slices.ContainsFunc(m.there, func(a *actor) bool { return a.id == id }) {
		return
	}
	m.there = append(m.there, &actor{birth: m.begin(id), id: id, state: api.SOpen})
}

func (m *maker) updateOne(a *actor) {
	number := m.dice.Intn(m.pages)
	if h := m.holders[number]; h != nil && h != a {
		return
	}
	m.holders[number] = a
	size := 16 * m.slots
	n := 1 + m.dice.Intn(1+m.dice.Intn(size))
	before, after := make([]byte, n), make([]byte, n)
	m.dice.Read(before)
	m.dice.Read(after)
	after[0], after[n-1] = before[0]+1, before[n-1]+1
	a.left = append(a.left, m.update(a.birth, number, 16+m.dice.Intn(size-n+1), before, after))
}

func (m *maker) undoOne(a *actor) {
	last := len(a.left) - 1
	u := m.all[slices.Index(m.lsns, a.left[last])]
	next := 0
	if last > 0 {
		next = a.left[last-1]
	}
	m.undo(a.birth, u.Page, u.From, u.Before, next)
	a.state, a.left = api.SAborting, a.left[:last]
}

func (m *maker) endOne(a *actor) {
	m.end(a.birth)
	m.there = slices.DeleteFunc(m.there, func(x *actor) bool { return x == a })
	for number, h := range m.holders {
		if h == a {
			delete(m.holders, number)
		}
	}
}

func (m *maker) checkpoint() {
	r := api.Record{Kind: api.KCheck}
	for _, a := range m.there {
		if a.state == api.SCommitted {
			return
		}
		next := 0
		if len(a.left) > 0 {
			next = a.left[len(a.left)-1]
		}
		r.Rows = append(r.Rows, api.Row{Birth: a.birth, Id: a.id, State: a.state, Last: m.last[a.birth], Next: next})
	}
	for number := range m.pages {
		if m.dice.Intn(2) == 0 {
			r.Dirty = append(r.Dirty, api.Rec{Page: number, Lsn: m.base + 1 + m.dice.Intn(len(m.log)+1)})
		}
	}
	m.lay(r)
}

// first gives the log's first records alone.
func (m *maker) first(n int) *scroll {
	s := *m.scroll
	s.lsns, s.all, s.ends, s.log = s.lsns[:n], s.all[:n], s.ends[:n], nil
	if n > 0 {
		s.log = m.log[:m.ends[n-1]]
	}
	return &s
}
