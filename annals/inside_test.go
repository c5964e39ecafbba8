package annals

// What can't be brought about, or seen, by calls alone: calls that break off, and what is kept.

import (
	"slices"
	"strconv"
	"testing"

	"annals/api"
)

func wantCommit(t *testing.T, s *Store, work, want int, wantErr api.Errno) {
	t.Helper()
	if n, err := s.Commit(work); n != want || err != wantErr {
		t.Errorf("Commit(%d) = %d, %d, want %d, %d", work, n, err, want, wantErr)
	}
}

// P1: a call that breaks off panics for nobody, answers an error, and has changed nothing.
func TestP1BrokenCallIsPutRight(t *testing.T) {
	s := New()
	s.works = map[int]*work{1: {}} // its writes can't be written into
	s.begun = 1
	if err := s.Put(1, "a", "1"); err == api.OK {
		t.Error("Put that broke off answers OK")
	}
	if _, err := s.Get(1, "a"); err != api.ErrNone {
		t.Errorf("Get behind it = %d", err)
	}
	if n, err := s.Begin(); n != 2 || err != api.OK {
		t.Errorf("Begin behind it = %d, %d", n, err)
	}
}

// P1: so does a Sweep, though it has no error to answer.
func TestP1BrokenSweepThrowsNothingAway(t *testing.T) {
	s := New()
	for _, value := range []string{"1", "2"} {
		n, _ := s.Begin()
		s.Put(n, "a", value)
		s.Commit(n)
	}
	s.works[9] = nil // when that one began can't be asked
	before := s.Look()
	if n := s.Sweep(); n != 0 || s.Look() != before {
		t.Errorf("Sweep that broke off = %d and leaves %+v", n, s.Look())
	}
	delete(s.works, 9)
	if n := s.Sweep(); n != 1 {
		t.Errorf("Sweep behind it = %d", n)
	}
}

// P1: nothing is left of a stream if the call that was to follow it breaks off.
func TestP1BrokenFollowingIsPutRight(t *testing.T) {
	s := New()
	n, _ := s.Begin()
	s.Put(n, "a", "1")
	s.Put(n, "b", "1")
	s.Commit(n)
	before := s.Look()
	follow := func() (err api.Errno) {
		var c change
		defer func() { c.settle(recover(), &err) }()
		s.follow(&c, api.Stream{From: 1, To: 5, Records: []api.Record{{Key: "a", Gone: true}, {Key: "aa", Value: "5"}, {Key: "b", Value: "5"}}})
		panic("broken")
	}
	if err := follow(); err == api.OK || s.Look() != before {
		t.Errorf("a broken one answers %d and leaves %+v", err, s.Look())
	}
	if keys := s.past.Keys(""); !slices.Equal(keys, []string{"a", "b"}) || s.past.Last("a") != 1 || s.past.Last("b") != 1 {
		t.Errorf("keys behind it: %q", keys)
	}
}

// P8: nothing is left of copyings that are over.
func TestP8OverLeavesNothing(t *testing.T) {
	s := New()
	n, _ := s.Begin()
	s.Put(n, "a", "1")
	s.Commit(n)
	for range 3 {
		n, _ := s.Start(true, 0, 1)
		for range 3 {
			s.Next(n)
		}
		n, _ = s.Start(false, 0, 1)
		s.Next(n)
		s.Stop(n)
	}
	if len(s.copyings) != 0 {
		t.Errorf("copyings: %v", s.copyings)
	}
}

// P5: no pin is left of a state that is not pinned any more.
func TestP5UnpinLeavesNothing(t *testing.T) {
	s := New()
	for range 3 {
		s.Pin(0)
	}
	for range 3 {
		s.Unpin(0)
	}
	if len(s.pins) != 0 {
		t.Errorf("pins: %v", s.pins)
	}
}

// steps does several things to a store, as a call does, and ends as it is told.
func steps(s *Store, m map[string]int, end func() api.Errno) (err api.Errno) {
	var c change
	defer func() { c.settle(recover(), &err) }()
	assign(&c, &s.now, 5)
	assign(&c, &s.now, 6)
	enter(&c, m, "old", 2)
	enter(&c, m, "new", 1)
	remove(&c, m, "old")
	remove(&c, m, "never")
	remove(&c, m, "kept")
	return end()
}

func TestP1ChangesAreTakenBack(t *testing.T) {
	for _, c := range []struct {
		name string
		end  func() api.Errno
		err  api.Errno
	}{
		{"an error", func() api.Errno { return api.ErrClash }, api.ErrClash},
		{"a panic", func() api.Errno { panic("broken") }, api.ErrFull},
	} {
		s, m := New(), map[string]int{"old": 1, "kept": 7}
		s.now = 3
		if err := steps(s, m, c.end); err != c.err {
			t.Errorf("%s: answers %d, want %d", c.name, err, c.err)
		}
		if s.now != 3 || len(m) != 2 || m["old"] != 1 || m["kept"] != 7 {
			t.Errorf("%s: leaves %d, %v", c.name, s.now, m)
		}
	}
	s, m := New(), map[string]int{"old": 1, "kept": 7}
	if err := steps(s, m, func() api.Errno { return api.OK }); err != api.OK {
		t.Errorf("a call that ends answers %d", err)
	}
	if s.now != 6 || len(m) != 1 || m["new"] != 1 {
		t.Errorf("a call that ends leaves %d, %v", s.now, m)
	}
}

// P1: behind a clash not one version is left that was not there before.
func TestP1ClashLeavesNoVersion(t *testing.T) {
	s := New()
	s.Begin()
	s.Begin()
	s.Put(1, "m", "1")
	s.Commit(1)
	for i := range 20 {
		s.Put(2, "k"+strconv.Itoa(i), "2")
	}
	s.Delete(2, "m")
	wantCommit(t, s, 2, 0, api.ErrClash)
	if keys := s.past.Keys(""); !slices.Equal(keys, []string{"m"}) {
		t.Errorf("keys behind a clash: %q", keys)
	}
	if s.now != 1 || s.past.Last("m") != 1 || len(s.works) != 0 {
		t.Errorf("behind a clash: now %d, last %d, %d works", s.now, s.past.Last("m"), len(s.works))
	}
}
