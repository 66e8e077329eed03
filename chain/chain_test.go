package chain_test

import (
	"bytes"
	"reflect"
	"runtime"
	"slices"
	"testing"

	"tidemark/api"
	"tidemark/chain"
)

// P12.1 and P12.2, step 2: what read answers is the answer, as it is, at whichever place; a record beside it is none.
func TestErrorsOfRead(t *testing.T) {
	for name, call := range calls {
		list := map[string][]int{"Back": {110, 100, 90, 80, 70, 60, 50, 40}, "Undo": {110, 100, 60, 50, 40}}[name]
		for i, bad := range list {
			for _, e := range []api.Errno{api.ErrDead, api.ErrLsn, api.ErrChain, api.ErrRecord, api.ErrCorrupt, -1, 1 << 40} {
				var asked []int
				read := func(lsn int) (api.Record, api.Errno) {
					r, _ := rolled().reader(&asked)(lsn)
					if lsn == bad {
						return r, e
					}
					return r, api.OK
				}
				if got, gotE := call(read, 110); len(got) != 0 || gotE != e || !slices.Equal(asked, list[:i+1]) {
					t.Errorf("%s, %d at %d: %v, %d, read %v", name, e, bad, got, gotE, asked)
				}
			}
		}
	}
}

// downTo reads a chain of updates side by side, that begins at the birth; at the bad place it answers ErrDead.
func downTo(birth, bad int, n *int) func(int) (api.Record, api.Errno) {
	return func(lsn int) (api.Record, api.Errno) {
		*n++
		switch lsn {
		case bad:
			return api.Record{}, api.ErrDead
		case birth:
			return api.Record{Kind: 1, Id: 1}, api.OK
		}
		return api.Record{Kind: 2, Birth: birth, Prev: lsn - 1}, api.OK
	}
}

// P12.1 and P12.2, step 1, and the chapter's fourth example; P12.4: at most 4096 numbers.
func TestMostRecords(t *testing.T) {
	for name, call := range calls {
		begin := 1 // how many of the records read are not told
		if name == "Back" {
			begin = 0
		}
		for _, c := range []struct{ birth, last, n int }{
			{1, 4095, 4095}, {1, 4096, 4096}, {1, 4097, -1}, {1, 4098, -1}, {1, 9000, -1}, {1, mostLsn, -1},
			{mostLsn - 4095, mostLsn, 4096}, {mostLsn - 4096, mostLsn, -1},
		} {
			n := 0
			got, e := call(downTo(c.birth, 0, &n), c.last)
			switch {
			case c.n < 0 && (len(got) != 0 || e != api.ErrChain || n != 4096):
				t.Errorf("%s(%d), birth %d: %d numbers, %d, %d reads, want ErrChain behind 4096", name, c.last, c.birth, len(got), e, n)
			case c.n >= 0 && (len(got) != c.n-begin || e != api.OK || n != c.n):
				t.Errorf("%s(%d), birth %d: %d numbers, %d, %d reads, want %d", name, c.last, c.birth, len(got), e, n, c.n)
			}
			for i, lsn := range got {
				if lsn != c.last-i {
					t.Fatalf("%s(%d): %d at %d", name, c.last, lsn, i)
				}
			}
		}
		// The last record that is read may fail yet; the one behind it isn't asked.
		for bad, want := range map[int]api.Errno{9000 - 4095: api.ErrDead, 9000 - 4096: api.ErrChain} {
			n := 0
			if got, e := call(downTo(1, bad, &n), 9000); len(got) != 0 || e != want || n != 4096 {
				t.Errorf("%s, dead at %d: %d numbers, %d, %d reads", name, bad, len(got), e, n)
			}
		}
	}
}

// P12.2, step 1: what is read counts, not what is told.
func TestMostRecordsOverOthers(t *testing.T) {
	for _, kind := range []int{4, 5, 6} {
		for last, want := range map[int]api.Errno{4096: api.OK, 4097: api.ErrChain} {
			n := 0
			read := func(lsn int) (api.Record, api.Errno) {
				r, e := downTo(1, 0, &n)(lsn)
				if lsn != 1 && lsn != last {
					r.Kind = kind
				}
				return r, e
			}
			got, e := chain.Undo(read, last)
			if e != want || n != 4096 || (e == api.OK) != slices.Equal(got, []int{last}) {
				t.Errorf("kind %d, Undo(%d): %v, %d, %d reads", kind, last, got, e, n)
			}
		}
	}
	n := 0
	read := func(lsn int) (api.Record, api.Errno) { // a compensation ahead of each update
		r, e := downTo(1, 0, &n)(lsn)
		if lsn%2 == 0 {
			r.Kind, r.Next, r.Prev = 3, lsn-1, 0
		}
		return r, e
	}
	if got, e := chain.Undo(read, 9001); len(got) != 0 || e != api.ErrChain || n != 4096 {
		t.Errorf("%d numbers, %d, %d reads", len(got), e, n)
	}
}

// filled gives the record with all fields set that no walk looks at.
func filled(r api.Record, n int) api.Record {
	r.Id, r.Page, r.From = n, n, -n
	r.Before, r.After = bytes.Repeat([]byte{9}, 5), bytes.Repeat([]byte{7}, 3)
	r.Rows, r.Dirty = []api.Row{{Birth: n, Id: n, State: n, Last: n, Next: n}}, []api.Rec{{Page: n, Lsn: n}}
	return r
}

// P12.3: nothing but Kind, Birth, Prev and Next is looked at; nor is what is read changed.
func TestNothingElseIsLookedAt(t *testing.T) {
	for _, n := range []int{-1, 0, 1, 40, 65, mostLsn} {
		l, kept := log{}, log{}
		for lsn, r := range rolled() {
			l[lsn], kept[lsn] = filled(r, n), filled(r, n)
		}
		goes(t, "Back", l, 110, 110, 100, 90, 80, 70, 60, 50, 40)
		want(t, "Undo", l, 110, []int{110, 60, 50}, api.OK, []int{110, 100, 60, 50, 40})
		if !reflect.DeepEqual(l, kept) {
			t.Errorf("what was read has changed: %v", l)
		}
	}
}

// goroutine tells which goroutine this is.
func goroutine() string {
	b := make([]byte, 64)
	b = b[:runtime.Stack(b, false)]
	return string(b[:bytes.IndexByte(b, '[')])
}

// P12.3: read is called by the caller's goroutine, while the call runs; it may call chain itself.
func TestReadIsCalledHere(t *testing.T) {
	here, runs := goroutine(), false
	var asked []int
	read := func(lsn int) (api.Record, api.Errno) {
		if goroutine() != here || !runs {
			t.Errorf("read(%d) by %s, the call runs: %v", lsn, goroutine(), runs)
		}
		return rolled().reader(&asked)(lsn)
	}
	within := func(lsn int) (api.Record, api.Errno) {
		if l, e := chain.Undo(read, 60); !slices.Equal(l, []int{60, 50}) || e != api.OK {
			t.Errorf("within: %v, %d", l, e)
		}
		if l, e := chain.Back(read, 60); !slices.Equal(l, []int{60, 50, 40}) || e != api.OK {
			t.Errorf("within: %v, %d", l, e)
		}
		return read(lsn)
	}
	runs = true
	back, e1 := chain.Back(within, 110)
	undo, e2 := chain.Undo(within, 110)
	runs = false
	n := len(asked)
	want(t, "Back", example(), 149, []int{149, 109, 35, 1}, api.OK, []int{149, 109, 35, 1})
	if len(back) != 8 || e1 != api.OK || len(undo) != 3 || e2 != api.OK || len(asked) != n {
		t.Errorf("%v, %d; %v, %d; %d reads more", back, e1, undo, e2, len(asked)-n)
	}
}

// DOC.md, rule 1: no call panics, also where read does, or is none.
func TestReadThatGivesUp(t *testing.T) {
	for name, call := range calls {
		for last, want := range map[int]api.Errno{0: api.OK, -1: api.ErrChain, 1: api.ErrChain, 35: api.ErrChain, mostLsn: api.ErrChain} {
			if l, e := call(nil, last); len(l) != 0 || e != want {
				t.Errorf("%s(nil, %d): %v, %d", name, last, l, e)
			}
		}
		var asked []int
		read := func(lsn int) (api.Record, api.Errno) {
			if lsn == 50 {
				panic("gone")
			}
			return rolled().reader(&asked)(lsn)
		}
		if l, e := call(read, 110); len(l) != 0 || e != api.ErrChain {
			t.Errorf("%s: %v, %d", name, l, e)
		}
	}
}

// P12.5: each list is the caller's own, its spare room too.
func TestListsAreNew(t *testing.T) {
	for name, call := range calls {
		for n := 2; n < 70; n++ {
			k := 0
			read := downTo(1, 0, &k)
			first, _ := call(read, n)
			second, _ := call(read, n)
			kept := slices.Clone(first)
			for i := range second[:cap(second)] {
				second[:cap(second)][i] = -1
			}
			third, e := call(read, n)
			if !slices.Equal(first, kept) || !slices.Equal(third, kept) || e != api.OK {
				t.Fatalf("%s(%d): %v, %v, want %v", name, n, first, third, kept)
			}
		}
	}
}
