package annals_test

// P5: what is held, and what is swept.

import (
	"math"
	"strconv"
	"testing"

	"annals/annals"
	"annals/api"
)

func TestExample2(t *testing.T) {
	s := annals.New()
	next(t, s, "a=x")
	pin(t, s, 1, api.OK)
	next(t, s, "-a")
	sweep(t, s, 0)
	look(t, s, api.State{Now: 2, Floor: 1, Pins: 1, Versions: 2})
	unpin(t, s, 1, api.OK)
	sweep(t, s, 2)
	look(t, s, api.State{Now: 2, Floor: 2})
}

func TestP5Look(t *testing.T) {
	s := annals.New()
	look(t, s, api.State{})
	begin(t, s, 1)
	put(t, s, 1, "a", "1", api.OK)
	del(t, s, 1, "b", api.OK)
	look(t, s, api.State{Open: 1}) // what is not committed is no version
	begin(t, s, 2)
	commit(t, s, 1, 1, api.OK)
	look(t, s, api.State{Now: 1, Open: 1, Versions: 2})
	pin(t, s, 0, api.OK)
	pin(t, s, 1, api.OK)
	pin(t, s, 1, api.OK)
	look(t, s, api.State{Now: 1, Open: 1, Pins: 3, Versions: 2})
	put(t, s, 2, "a", "2", api.OK)
	commit(t, s, 2, 0, api.ErrClash)
	look(t, s, api.State{Now: 1, Pins: 3, Versions: 2})
	unpin(t, s, 1, api.OK)
	look(t, s, api.State{Now: 1, Pins: 2, Versions: 2})
	next(t, s, "a=2", "c=2")
	look(t, s, api.State{Now: 2, Pins: 2, Versions: 4})
	look(t, s, api.State{Now: 2, Pins: 2, Versions: 4})
}

func TestP5PinBetweenFloorAndNow(t *testing.T) {
	s := annals.New()
	pin(t, s, 0, api.OK)
	pin(t, s, 1, api.ErrPast)
	for range 4 {
		next(t, s, "a=x")
	}
	unpin(t, s, 0, api.OK)
	pin(t, s, 2, api.OK)
	pin(t, s, 1, api.OK) // not swept yet
	unpin(t, s, 1, api.OK)
	sweep(t, s, 1)
	look(t, s, api.State{Now: 4, Floor: 2, Pins: 1, Versions: 3})
	for _, state := range []int{math.MinInt, -1, 0, 1, 5, api.MaxState, math.MaxInt} {
		pin(t, s, state, api.ErrPast)
		unpin(t, s, state, api.ErrNone)
	}
	look(t, s, api.State{Now: 4, Floor: 2, Pins: 1, Versions: 3})
	for _, state := range []int{2, 3, 4} {
		pin(t, s, state, api.OK)
	}
	look(t, s, api.State{Now: 4, Floor: 2, Pins: 4, Versions: 3})
}

// Only a pin of that state is let go, and only as often as it was pinned.
func TestP5PinsAreCounted(t *testing.T) {
	s := annals.New()
	unpin(t, s, 0, api.ErrNone)
	for range 3 {
		next(t, s, "a=x")
	}
	for range 3 {
		pin(t, s, 1, api.OK)
	}
	pin(t, s, 2, api.OK)
	for left := 2; left >= 0; left-- {
		sweep(t, s, 0)
		look(t, s, api.State{Now: 3, Floor: 1, Pins: left + 2, Versions: 3})
		unpin(t, s, 1, api.OK)
	}
	unpin(t, s, 1, api.ErrNone)
	unpin(t, s, 3, api.ErrNone)
	look(t, s, api.State{Now: 3, Floor: 1, Pins: 1, Versions: 3})
	pin(t, s, 1, api.OK) // not swept yet: it can be held again
	sweep(t, s, 0)
	unpin(t, s, 1, api.OK)
	sweep(t, s, 1)
	look(t, s, api.State{Now: 3, Floor: 2, Pins: 1, Versions: 2})
	unpin(t, s, 2, api.OK)
	unpin(t, s, 2, api.ErrNone)
	sweep(t, s, 1)
	look(t, s, api.State{Now: 3, Floor: 3, Versions: 1})
}

// Whatever holds a state, it is the least one that counts.
func TestP5LeastHeld(t *testing.T) {
	made := func() *annals.Store {
		s := annals.New()
		next(t, s, "a=1")
		next(t, s, "a=2")
		return s
	}
	for _, c := range []struct {
		name        string
		hold        func(s *annals.Store) // at the state 2; then 3 and 4 become
		thrown, low int
	}{
		{"nothing", func(s *annals.Store) {}, 3, 4},
		{"a work", func(s *annals.Store) { s.Begin() }, 1, 2},
		{"a work that is over", func(s *annals.Store) { n, _ := s.Begin(); s.Commit(n) }, 3, 4},
		{"an aborted work", func(s *annals.Store) { n, _ := s.Begin(); s.Abort(n) }, 3, 4},
		{"a pin", func(s *annals.Store) { s.Pin(2) }, 1, 2},
		{"a pin below a work", func(s *annals.Store) { s.Pin(1); s.Begin() }, 0, 1},
		{"a work below a pin", func(s *annals.Store) { s.Begin(); next(t, s, "b="); s.Pin(3) }, 1, 2},
		{"the first state", func(s *annals.Store) { s.Pin(0) }, 0, 0},
		{"two pins", func(s *annals.Store) { s.Pin(2); s.Pin(1) }, 0, 1},
	} {
		s := made()
		c.hold(s)
		for s.Look().Now < 4 {
			next(t, s, "a=x")
		}
		if c.name == "a work below a pin" {
			next(t, s, "a=y")
		}
		before := s.Look()
		sweep(t, s, c.thrown)
		before.Floor, before.Versions = c.low, before.Versions-c.thrown
		if got := s.Look(); got != before {
			t.Errorf("%s: Look() = %+v, want %+v", c.name, got, before)
		}
		sweep(t, s, 0)
	}
}

// A deleted key's versions go, all of them, when its deletion is what the least held state sees; not before.
func TestP5SweepOfDeletions(t *testing.T) {
	s := annals.New()
	next(t, s, "a=1", "b=1", "c=1", "-never")
	next(t, s, "-a", "b=2")
	next(t, s, "a=3", "-b", "c=3")
	begin(t, s, 4)
	next(t, s, "-a", "-c", "d=4")
	sweep(t, s, 7) // at 3: a of 1 and 2, b of 1, 2 and 3, c of 1, never of 1
	look(t, s, api.State{Now: 4, Floor: 3, Open: 1, Versions: 5})
	scan(t, s, 4, "", -1, "a", "3", "c", "3")
	begin(t, s, 6)
	scan(t, s, 6, "", -1, "d", "4")
	abort(t, s, 4, api.OK)
	sweep(t, s, 4)
	look(t, s, api.State{Now: 4, Floor: 4, Open: 1, Versions: 1})
	scan(t, s, 6, "", -1, "d", "4")
	next(t, s, "a=5", "b=5") // a key that was swept whole can be put again
	begin(t, s, 8)
	scan(t, s, 8, "", -1, "a", "5", "b", "5", "d", "4")
	scan(t, s, 6, "", -1, "d", "4")
	lacks(t, s, 6, "a", api.ErrNone)
}

// A deletion that the least held state sees goes, though later versions of its key stay.
func TestP5SweepOfDeletionAheadOfOthers(t *testing.T) {
	s := annals.New()
	next(t, s, "a=1")
	next(t, s, "-a")
	pin(t, s, 2, api.OK)
	next(t, s, "a=3")
	next(t, s, "-a")
	sweep(t, s, 2)
	look(t, s, api.State{Now: 4, Floor: 2, Pins: 1, Versions: 2})
	pin(t, s, 3, api.OK)
	unpin(t, s, 2, api.OK)
	sweep(t, s, 0)
	look(t, s, api.State{Now: 4, Floor: 3, Pins: 1, Versions: 2})
	unpin(t, s, 3, api.OK)
	sweep(t, s, 2)
	look(t, s, api.State{Now: 4, Floor: 4})
}

// P4 goes on holding: what is swept hides no clash, and makes none.
func TestP5SweepAndClashes(t *testing.T) {
	s := annals.New()
	next(t, s, "a=1", "b=1", "c=1")
	next(t, s, "-b")
	begin(t, s, 3)
	begin(t, s, 4)
	begin(t, s, 5)
	begin(t, s, 6)
	next(t, s, "-a", "c=3")
	next(t, s, "a=4")
	next(t, s, "-a")
	sweep(t, s, 2) // b of 1 and 2
	put(t, s, 3, "a", "mine", api.OK)
	commit(t, s, 3, 0, api.ErrClash)
	del(t, s, 4, "c", api.OK)
	commit(t, s, 4, 0, api.ErrClash)
	put(t, s, 5, "b", "mine", api.OK)
	commit(t, s, 5, 6, api.OK)
	put(t, s, 6, "b", "late", api.OK)
	sweep(t, s, 0)
	commit(t, s, 6, 0, api.ErrClash)
	sweep(t, s, 5) // a of 1, 3, 4 and 5, c of 1
	look(t, s, api.State{Now: 6, Floor: 6, Versions: 2})
}

// P2: a list that came out before stays as it was.
func TestP5SweepChangesNoList(t *testing.T) {
	s := annals.New()
	next(t, s, "a=1", "b=1")
	begin(t, s, 2)
	before, _ := s.Scan(2, "", -1)
	commit(t, s, 2, 1, api.OK)
	next(t, s, "-a", "b=2")
	sweep(t, s, 3)
	if before[0] != (api.Pair{Key: "a", Value: "1"}) || before[1] != (api.Pair{Key: "b", Value: "1"}) {
		t.Errorf("a list has become %q", before)
	}
	begin(t, s, 4)
	scan(t, s, 4, "", -1, "b", "2")
}

func TestP5ManyKeys(t *testing.T) {
	s := annals.New()
	const many = 30000
	for from := 0; from < many; from += api.MaxWrites {
		var puts, dels []string
		for i := from; i < from+api.MaxWrites; i++ {
			puts, dels = append(puts, strconv.Itoa(i)+"=x"), append(dels, "-"+strconv.Itoa(i))
		}
		next(t, s, puts...)
		next(t, s, dels...)
	}
	next(t, s, "kept=x")
	look(t, s, api.State{Now: 2001, Versions: 60001})
	sweep(t, s, 60000)
	look(t, s, api.State{Now: 2001, Floor: 2001, Versions: 1})
	begin(t, s, 2002)
	scan(t, s, 2002, "", -1, "kept", "x")
}
