package plain

import (
	"testing"

	"tidemark/api"
)

// An error that comes to a face tells what met it, and the face finds its number however often it was wrapped: chapter 18, Ways.
func TestRefusal(t *testing.T) {
	s, _ := New(api.Config{Shape: api.Shape{Pages: 1, Slots: 1, Log: 1024}, Frames: 2, Table: 8, Keys: 9})
	for id := 1; id <= 7; id++ {
		s.Begin(id)
	}
	for text, err := range map[string]error{
		"a begin: refused by 170":  s.begin(8),
		"a commit: refused by 160": s.commit(8),
		"refused by 210":           s.idle(),
	} {
		if err == nil || err.Error() != text {
			t.Errorf("%v, want %s", err, text)
		}
	}
	_, err := s.change(1, Change{Key: 3, Value: 7})
	if err == nil || err.Error() != "a change, its transaction aborted: an update: refused by 170" || number(err) != api.ErrLog {
		t.Errorf("%v: %d", err, number(err))
	}
	if e := number(nil); e != api.OK {
		t.Errorf("no error: %d", e)
	}
}
