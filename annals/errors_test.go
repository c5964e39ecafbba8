package annals_test

// P1: every call ends, none panics; which error comes first; what stands beside an error; nothing has changed.

import (
	"math"
	"strings"
	"testing"

	"annals/annals"
	"annals/api"
)

func TestP1WorksThatAreNotOpen(t *testing.T) {
	s := annals.New()
	for n := 1; n <= 4; n++ {
		begin(t, s, n)
		put(t, s, n, "k", "v", api.OK)
	}
	commit(t, s, 1, 1, api.OK)
	commit(t, s, 2, 0, api.ErrClash)
	abort(t, s, 3, api.OK)
	long := strings.Repeat("x", 100)
	for _, n := range []int{1, 2, 3, 5, 0, -1, -4, 1 << 32, math.MaxInt, math.MinInt} {
		lacks(t, s, n, "", api.ErrNone) // ErrNone is named ahead of ErrText
		lacks(t, s, n, "k", api.ErrNone)
		put(t, s, n, "", long, api.ErrNone)
		put(t, s, n, "k", "w", api.ErrNone)
		del(t, s, n, long, api.ErrNone)
		del(t, s, n, "k", api.ErrNone)
		for _, from := range []string{"", long} {
			if list, err := s.Scan(n, from, -1); len(list) != 0 || err != api.ErrNone {
				t.Errorf("Scan(%d) = %q, %d", n, list, err)
			}
		}
		commit(t, s, n, 0, api.ErrNone)
		abort(t, s, n, api.ErrNone)
	}
	get(t, s, 4, "k", "v")
	begin(t, s, 5)
	scan(t, s, 5, "", -1, "k", "v")
}

func TestP1TextsOfAnyLength(t *testing.T) {
	s := annals.New()
	begin(t, s, 1)
	for _, n := range []int{11, 40, 41, 255, 256, 1 << 16, 1 << 24} {
		long := strings.Repeat("k", n)
		lacks(t, s, 1, long, api.ErrText)
		put(t, s, 1, long, "", api.ErrText)
		del(t, s, 1, long, api.ErrText)
		if list, err := s.Scan(1, long, -1); len(list) != 0 || err != api.ErrText {
			t.Errorf("Scan from %d bytes = %q, %d", n, list, err)
		}
		if n > api.MaxValue {
			put(t, s, 1, "k", long, api.ErrText)
		}
	}
	commit(t, s, 1, 0, api.OK) // no refused one was a write
}

func TestP1TextAheadOfFull(t *testing.T) {
	s := annals.New()
	begin(t, s, 1)
	for i := range api.MaxWrites {
		put(t, s, 1, string(rune('A'+i)), "", api.OK)
	}
	put(t, s, 1, "", "", api.ErrText)
	put(t, s, 1, "elevenbytes", "", api.ErrText)
	put(t, s, 1, "new", strings.Repeat("x", 41), api.ErrText)
	del(t, s, 1, "", api.ErrText)
	put(t, s, 1, "new", "", api.ErrFull)
	del(t, s, 1, "new", api.ErrFull)
}

func TestP1RefusalsChangeNothing(t *testing.T) {
	s := annals.New()
	begin(t, s, 1)
	put(t, s, 1, "a", "1", api.OK)
	del(t, s, 1, "b", api.OK)
	put(t, s, 1, "a", strings.Repeat("x", 41), api.ErrText)
	put(t, s, 1, "b", strings.Repeat("x", 41), api.ErrText)
	get(t, s, 1, "a", "1")
	lacks(t, s, 1, "b", api.ErrNone)
	for n := 2; n <= api.MaxOpen; n++ {
		begin(t, s, n)
	}
	for range 3 {
		if n, err := s.Begin(); n != 0 || err != api.ErrFull {
			t.Errorf("Begin of a ninth = %d, %d", n, err)
		}
	}
	abort(t, s, 8, api.OK)
	begin(t, s, 9) // the refused ones have used up no number
	commit(t, s, 1, 1, api.OK)
	abort(t, s, 2, api.OK)
	begin(t, s, 10)
	scan(t, s, 10, "", -1, "a", "1")
}

// A clash is found wherever it is among the keys, and nothing of the work is left, neither its keys nor a state.
func TestP1ClashLeavesNothing(t *testing.T) {
	for _, first := range []string{"a", "c", "e"} {
		s := annals.New()
		begin(t, s, 1)
		put(t, s, 1, "b", "old", api.OK)
		commit(t, s, 1, 1, api.OK)
		begin(t, s, 2)
		begin(t, s, 3)
		begin(t, s, 4)
		put(t, s, 2, first, "first", api.OK)
		commit(t, s, 2, 2, api.OK)
		for _, key := range []string{"a", "c", "d", "e"} {
			put(t, s, 3, key, "mine", api.OK)
		}
		del(t, s, 3, "b", api.OK)
		commit(t, s, 3, 0, api.ErrClash)
		begin(t, s, 5)
		if first == "a" {
			scan(t, s, 5, "", -1, first, "first", "b", "old")
		} else {
			scan(t, s, 5, "", -1, "b", "old", first, "first")
		}
		put(t, s, 4, "b", "new", api.OK) // what the clashing work has put clashes with nobody
		put(t, s, 4, "d", "new", api.OK)
		commit(t, s, 4, 3, api.OK)
		commit(t, s, 5, 2, api.OK)
	}
}

// A store that New has not made is none that a call breaks at.
func TestP1OtherStores(t *testing.T) {
	var zero annals.Store
	begin(t, &zero, 1)
	put(t, &zero, 1, "a", "1", api.OK)
	unpin(t, &zero, 0, api.ErrNone)
	pin(t, &zero, 0, api.OK)
	sweep(t, &zero, 0)
	commit(t, &zero, 1, 1, api.OK)
	look(t, &zero, api.State{Now: 1, Pins: 1, Versions: 1})
	noPiece(t, &zero, 1)
	stop(t, &zero, 1, api.ErrNone)
	start(t, &zero, full(1), 1)
	copies(t, &zero, 1, 0, full(1, "a=1"))
	apply(t, &zero, encode(t, delta(1, 2, "b=2")), api.OK)
	stands(t, &zero, "a", "1", "b", "2")
	var other annals.Store
	apply(t, &other, encode(t, delta(0, 2, "b=2")), api.OK)
	stands(t, &other, "b", "2")
	var none *annals.Store
	if n, err := none.Begin(); n != 0 || err != api.ErrNone {
		t.Errorf("Begin of no store = %d, %d", n, err)
	}
	lacks(t, none, 1, "a", api.ErrNone)
	put(t, none, 1, "a", "", api.ErrNone)
	del(t, none, 1, "a", api.ErrNone)
	commit(t, none, 1, 0, api.ErrNone)
	abort(t, none, 1, api.ErrNone)
	pin(t, none, 0, api.ErrNone)
	unpin(t, none, 0, api.ErrNone)
	sweep(t, none, 0)
	look(t, none, api.State{})
	noStart(t, none, true, 0, 0, api.ErrNone)
	noPiece(t, none, 1)
	stop(t, none, 1, api.ErrNone)
	apply(t, none, encode(t, delta(0, 1)), api.ErrNone)
	if list, err := none.Scan(1, "", -1); len(list) != 0 || err != api.ErrNone {
		t.Errorf("Scan of no store = %q, %d", list, err)
	}
}
