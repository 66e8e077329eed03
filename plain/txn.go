package plain

import "tidemark/api"

// The frames' bytes: so many, and of an update and a compensation some for each byte of the change besides.
const (
	beginBytes  = 34
	commitBytes = 33
	abortBytes  = 33
	endBytes    = 33
	updateBytes = 38
	undoBytes   = 46
	checkBytes  = 35
	rowBytes    = 26
	recBytes    = 9
)

// txn is an open transaction.
type txn struct {
	held    map[int]values // its own values of each page that it holds
	changes []Change
	kept    int
}

func (s *State) begin(id int) error {
	if _, there := s.open[id]; there || !within(id, 1, api.MaxId) {
		return refusal(api.ErrTxn)
	}
	if len(s.open) >= s.config.Table {
		return refusal(api.ErrTable)
	}
	const kept = commitBytes + abortBytes + endBytes
	if err := s.log(beginBytes, kept); err != nil {
		return wrap("a begin", err)
	}
	s.open[id] = &txn{held: map[int]values{}, kept: kept}
	return nil
}

func (s *State) get(id, key int) (uint64, bool, error) {
	t, page, err := s.ask(id, key)
	if err != nil {
		return 0, false, wrap("a get", err)
	}
	seen := s.seen(t, page)
	t.held[page] = seen
	v, there := seen[key]
	return v, there, nil
}

// change lays a change, and tells whether its key had a value. The page is held from the last step on, so that an error ahead of it need not give it back.
func (s *State) change(id int, c Change) (bool, error) {
	t, page, err := s.ask(id, c.Key)
	if err != nil {
		return false, wrap("a change", err)
	}
	seen := s.seen(t, page)
	_, there := seen[c.Key]
	if !there && !c.Gone && len(seen) >= s.config.Shape.Slots {
		return false, wrap("a change", refusal(api.ErrFull))
	}
	if n := length(seen.slot(c.Key), c.slot()); n > 0 {
		if err := s.update(t, c, n); err != nil {
			s.forget(id, t)
			return false, wrap("a change, its transaction aborted", err)
		}
	}
	seen.lay(c)
	t.held[page] = seen
	return there, nil
}

// update appends an update of so many bytes.
func (s *State) update(t *txn, c Change, n int) error {
	if err := s.log(updateBytes+2*n, undoBytes+n); err != nil {
		return wrap("an update", err)
	}
	t.changes = append(t.changes, c)
	t.kept += undoBytes + n
	return nil
}

func (s *State) commit(id int) error {
	t, err := s.find(id)
	if err != nil {
		return wrap("a commit", err)
	}
	for page, own := range t.held {
		s.pages[page] = own
	}
	s.done = append(s.done, t.changes)
	s.used += commitBytes + endBytes
	delete(s.open, id)
	return nil
}

func (s *State) abort(id int) error {
	t, err := s.find(id)
	if err != nil {
		return wrap("an abort", err)
	}
	s.forget(id, t)
	return nil
}

// forget aborts: all that was kept is used, but for the commit.
func (s *State) forget(id int, t *txn) {
	s.used += t.kept - commitBytes
	delete(s.open, id)
}

// find gives an open transaction.
func (s *State) find(id int) (*txn, error) {
	t, there := s.open[id]
	if !there {
		return nil, refusal(api.ErrTxn)
	}
	return t, nil
}

// ask gives the transaction that asks for a key, and the key's page, if no other one holds it.
func (s *State) ask(id, key int) (*txn, int, error) {
	t, err := s.find(id)
	if err != nil {
		return nil, 0, err
	}
	if !within(key, 0, s.config.Keys-1) {
		return nil, 0, refusal(api.ErrKey)
	}
	page := key % s.config.Shape.Pages
	for _, other := range s.open {
		if _, held := other.held[page]; held && other != t {
			return nil, 0, refusal(api.ErrBusy)
		}
	}
	return t, page, nil
}

// seen gives the values of a page as the transaction sees them: its own, or a copy that can become its own.
func (s *State) seen(t *txn, page int) values {
	if own, held := t.held[page]; held {
		return own
	}
	return s.pages[page].copied()
}
