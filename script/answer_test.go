package script

import (
	"math"
	"slices"
	"testing"

	"tidemark/api"
	"tidemark/duel"
)

// No talk reaches an image of which the managers differ (W3): so what would be told is asked here.
func TestDiffer(t *testing.T) { // P30.1
	a := api.Report{Winners: []int{1, 35, 900}, Losers: []int{69}, Redone: 4, Undone: 3, Ends: 2}
	b := api.Report{Winners: []int{2}, Losers: []int{70, 71}, Redone: 7, Undone: 8, Ends: 9}
	for _, c := range []struct {
		v    duel.Verdict
		f    api.Errno
		want string
	}{
		{duel.Verdict{A: a, B: b}, api.OK, "differ winners 1,35,900 losers 69 undone 3 ends 2"},
		{duel.Verdict{A: a, B: a, Same: true}, api.OK, "same winners 1,35,900 losers 69 undone 3 ends 2"},
		{duel.Verdict{A: b, B: a}, api.OK, "differ winners 2 losers 70,71 undone 8 ends 9"},
		{duel.Verdict{Same: true}, api.OK, "same winners - losers - undone 0 ends 0"},
		{duel.Verdict{}, api.ErrCorrupt, "error 220"},
	} {
		if got := duelLine(c.v, c.f); !slices.Equal(got, []string{c.want}) {
			t.Errorf("%v, %d: %q, want %q", c.v, c.f, got, c.want)
		}
	}
}

func TestTable(t *testing.T) { // P30.1: each row has a name of its own and a form of known letters, and is obeyed
	for i, c := range commands {
		for _, other := range commands[i+1:] {
			if c.name == other.name {
				t.Errorf("%s stands there twice", c.name)
			}
		}
		words := map[byte]string{'N': "2", 'V': "7", 'M': "aries", 'L': "-"}
		line := c.name
		for i := range len(c.form) {
			if words[c.form[i]] == "" {
				t.Errorf("%s: %q", c.name, c.form)
			}
			line += " " + words[c.form[i]]
		}
		s := New()
		for _, ahead := range []string{"make 2 2 1024 2 2 100", "copy"} {
			if got := s.Do(ahead); !slices.Equal(got, []string{"ok"}) {
				t.Fatalf("%s: %q", ahead, got)
			}
		}
		if got := s.Do(line); slices.Equal(got, []string{"error 300"}) || slices.Equal(got, []string{"error 262"}) {
			t.Errorf("%s: %q", line, got)
		}
	}
}

func TestGreatNumbers(t *testing.T) { // P30.1: births, counts, keys and values in full
	r := api.Report{Winners: []int{1 << 59, 1 << 60}, Losers: []int{math.MaxInt}, Redone: 10, Undone: 200, Ends: 3000}
	want := "ok winners 576460752303423488,1152921504606846976 losers 9223372036854775807 redone 10 undone 200 ends 3000"
	if got := openedLine(r); !slices.Equal(got, []string{want}) {
		t.Errorf("%q", got)
	}
	all := []api.Entry{{Key: 0, Value: math.MaxUint64}, {Key: 1048575}}
	if got := dumpLine(all, api.OK); !slices.Equal(got, []string{"dump 0=18446744073709551615 1048575=0"}) {
		t.Errorf("%q", got)
	}
}
