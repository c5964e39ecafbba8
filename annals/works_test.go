package annals_test

// P3 and P4: works, what they see, and what becomes of them.

import (
	"math"
	"strings"
	"testing"

	"annals/annals"
	"annals/api"
)

func TestExample1(t *testing.T) {
	s := annals.New()
	begin(t, s, 1)
	put(t, s, 1, "a", "x", api.OK)
	begin(t, s, 2)
	put(t, s, 2, "a", "y", api.OK)
	commit(t, s, 1, 1, api.OK)
	get(t, s, 2, "a", "y")
	commit(t, s, 2, 0, api.ErrClash)
	begin(t, s, 3)
	get(t, s, 3, "a", "x")
}

func TestP3NewIsEmpty(t *testing.T) {
	s := annals.New()
	begin(t, s, 1)
	scan(t, s, 1, "", -1)
	lacks(t, s, 1, "a", api.ErrNone)
	commit(t, s, 1, 0, api.OK)
}

func TestP3BeginIsBounded(t *testing.T) {
	s := annals.New()
	next := 1
	for ; next <= api.MaxOpen; next++ {
		begin(t, s, next)
	}
	endings := []func(){
		func() { abort(t, s, 5, api.OK) },
		func() { commit(t, s, 1, 0, api.OK) },
		func() { put(t, s, 2, "a", "", api.OK); commit(t, s, 2, 1, api.OK) },
		func() { put(t, s, 3, "a", "", api.OK); commit(t, s, 3, 0, api.ErrClash) },
	}
	for _, end := range endings { // each makes room for one
		if n, err := s.Begin(); n != 0 || err != api.ErrFull {
			t.Errorf("Begin() = %d, %d with eight open", n, err)
		}
		end()
		begin(t, s, next)
		next++
	}
}

func TestP3KeysAndValues(t *testing.T) {
	s := annals.New()
	begin(t, s, 1)
	whole := strings.Repeat("v", api.MaxValue)
	for _, c := range []struct{ key, value string }{
		{"k", ""}, {"tenbytes..", whole}, {"\x00", "\x00\xff"}, {"\xff\xfe", "\xc3"}, {"\xff\xff\xff\xff\xff\xff\xff\xff\xff\xff", "top"}, {" ", "\n"},
	} {
		put(t, s, 1, c.key, c.value, api.OK)
		get(t, s, 1, c.key, c.value)
	}
	for _, key := range []string{"", "elevenbytes"} {
		lacks(t, s, 1, key, api.ErrText)
		put(t, s, 1, key, "", api.ErrText)
		del(t, s, 1, key, api.ErrText)
	}
	put(t, s, 1, "k", whole+"v", api.ErrText)
	lacks(t, s, 1, "tenbytes.", api.ErrNone)
	lacks(t, s, 1, "\x00\x00", api.ErrNone)
	commit(t, s, 1, 1, api.OK)
	begin(t, s, 2)
	get(t, s, 2, "k", "")
	get(t, s, 2, "tenbytes..", whole)
}

func TestP3OwnWritesAreSeen(t *testing.T) {
	s := annals.New()
	begin(t, s, 1)
	put(t, s, 1, "a", "1", api.OK)
	put(t, s, 1, "b", "1", api.OK)
	commit(t, s, 1, 1, api.OK)
	begin(t, s, 2)
	begin(t, s, 3)
	put(t, s, 2, "a", "2", api.OK)
	get(t, s, 2, "a", "2")
	del(t, s, 2, "a", api.OK)
	lacks(t, s, 2, "a", api.ErrNone)
	put(t, s, 2, "a", "3", api.OK)
	get(t, s, 2, "a", "3")
	del(t, s, 2, "b", api.OK)
	put(t, s, 2, "c", "3", api.OK)
	del(t, s, 2, "c", api.OK)
	put(t, s, 2, "d", "3", api.OK)
	scan(t, s, 2, "", -1, "a", "3", "d", "3")
	scan(t, s, 3, "", -1, "a", "1", "b", "1")
	commit(t, s, 2, 2, api.OK)
	begin(t, s, 4)
	scan(t, s, 4, "", -1, "a", "3", "d", "3")
}

// Each work sees the state at which it began, whatever comes behind it.
func TestP3OldStatesAreSeen(t *testing.T) {
	s := annals.New()
	begin(t, s, 1) // sees 0
	steps := []struct{ key, value string }{{"a", "1"}, {"a", "2"}, {"a", ""}, {"b", "4"}, {"a", "5"}}
	for i, step := range steps {
		n := 2 + 2*i
		begin(t, s, n)
		if step.value == "" {
			del(t, s, n, step.key, api.OK)
		} else {
			put(t, s, n, step.key, step.value, api.OK)
		}
		commit(t, s, n, i+1, api.OK)
		begin(t, s, n+1) // sees i+1
	}
	scan(t, s, 1, "", -1)
	scan(t, s, 3, "", -1, "a", "1")
	scan(t, s, 5, "", -1, "a", "2")
	scan(t, s, 7, "", -1)
	scan(t, s, 9, "", -1, "b", "4")
	scan(t, s, 11, "", -1, "a", "5", "b", "4")
	lacks(t, s, 1, "a", api.ErrNone)
	get(t, s, 3, "a", "1")
	get(t, s, 5, "a", "2")
	lacks(t, s, 7, "a", api.ErrNone)
	commit(t, s, 5, 2, api.OK)
}

func TestP3WritesAreBounded(t *testing.T) {
	s := annals.New()
	begin(t, s, 1)
	for i := range api.MaxWrites {
		key := string(rune('A' + i))
		if i%2 == 0 {
			put(t, s, 1, key, "1", api.OK)
		} else {
			del(t, s, 1, key, api.OK) // of what does not stand: it counts, too
		}
	}
	put(t, s, 1, "new", "", api.ErrFull)
	del(t, s, 1, "new", api.ErrFull)
	lacks(t, s, 1, "new", api.ErrNone)
	for i := range api.MaxWrites {
		put(t, s, 1, string(rune('A'+i)), "2", api.OK)
		del(t, s, 1, string(rune('A'+i)), api.OK)
	}
	put(t, s, 1, "new", "", api.ErrFull) // a key once written counts, deleted or not
	put(t, s, 1, "C", "3", api.OK)
	commit(t, s, 1, 1, api.OK)
	begin(t, s, 2)
	scan(t, s, 2, "", -1, "C", "3")
	put(t, s, 2, "new", "", api.OK)
}

func TestP3Scan(t *testing.T) {
	s := annals.New()
	begin(t, s, 1)
	for _, key := range []string{"b", "\xff", "a", "ab", "\x00", "ba"} {
		put(t, s, 1, key, "1", api.OK)
	}
	commit(t, s, 1, 1, api.OK)
	begin(t, s, 2)
	put(t, s, 2, "aa", "2", api.OK)
	put(t, s, 2, "b", "2", api.OK)
	del(t, s, 2, "a", api.OK)
	del(t, s, 2, "zz", api.OK)
	put(t, s, 2, "\xff\xff", "2", api.OK)
	all := []string{"\x00", "1", "aa", "2", "ab", "1", "b", "2", "ba", "1", "\xff", "1", "\xff\xff", "2"}
	for _, most := range []int{-1, math.MinInt, 7, 8, math.MaxInt} {
		scan(t, s, 2, "", most, all...)
	}
	for most := range 7 {
		scan(t, s, 2, "", most, all[:2*most]...)
	}
	scan(t, s, 2, "\x00", -1, all...)
	scan(t, s, 2, "\x00\x00", -1, all[2:]...)
	scan(t, s, 2, "a", 1, all[2:4]...)
	scan(t, s, 2, "ab", 2, all[4:8]...)
	scan(t, s, 2, "b", -1, all[6:]...)
	scan(t, s, 2, "b\x00", -1, all[8:]...)
	scan(t, s, 2, "tenbytes..", -1, all[10:]...)
	scan(t, s, 2, "\xff\xff", -1, all[12:]...)
	scan(t, s, 2, "\xff\xff\x00", -1)
	if list, err := s.Scan(2, "elevenbytes", 0); len(list) != 0 || err != api.ErrText {
		t.Errorf("Scan from eleven bytes = %q, %d", list, err)
	}
}

func TestP4CommitWithoutWrites(t *testing.T) {
	s := annals.New()
	begin(t, s, 1)
	begin(t, s, 2)
	begin(t, s, 3)
	put(t, s, 2, "a", "", api.OK)
	commit(t, s, 2, 1, api.OK)
	begin(t, s, 4)
	commit(t, s, 1, 0, api.OK) // the state at which it began, not NOW
	commit(t, s, 4, 1, api.OK)
	del(t, s, 3, "never", api.OK) // a write, though nothing stood there
	commit(t, s, 3, 2, api.OK)
	for n := 1; n <= 4; n++ {
		commit(t, s, n, 0, api.ErrNone)
	}
}

func TestP4Clashes(t *testing.T) {
	write := func(s *annals.Store, work int, del bool) {
		if del {
			s.Delete(work, "a")
		} else {
			s.Put(work, "a", "same")
		}
	}
	for _, stood := range []bool{false, true} {
		for i := range 4 {
			s := annals.New()
			begin(t, s, 1)
			if stood {
				put(t, s, 1, "a", "same", api.OK)
			}
			put(t, s, 1, "b", "", api.OK)
			commit(t, s, 1, 1, api.OK)
			begin(t, s, 2)
			begin(t, s, 3)
			write(s, 2, i&1 != 0)
			write(s, 3, i&2 != 0)
			commit(t, s, 3, 2, api.OK)
			commit(t, s, 2, 0, api.ErrClash)
			abort(t, s, 2, api.ErrNone)
			begin(t, s, 4)
			write(s, 4, i&1 != 0)
			commit(t, s, 4, 3, api.OK) // it began behind them
		}
	}
}

func TestP4NoClash(t *testing.T) {
	s := annals.New()
	for n := 1; n <= 5; n++ {
		begin(t, s, n)
	}
	put(t, s, 1, "a", "1", api.OK)
	commit(t, s, 1, 1, api.OK)
	lacks(t, s, 2, "b", api.ErrNone) // reads clash with nothing
	put(t, s, 3, "b", "3", api.OK)
	commit(t, s, 3, 2, api.OK)
	put(t, s, 4, "c", "4", api.OK)
	abort(t, s, 4, api.OK)
	put(t, s, 5, "c", "5", api.OK) // what was aborted has become nothing
	commit(t, s, 5, 3, api.OK)
	scan(t, s, 2, "", -1)
	commit(t, s, 2, 0, api.OK)
	begin(t, s, 6)
	scan(t, s, 6, "", -1, "a", "1", "b", "3", "c", "5")
}

// A clash is told by any state behind the beginning, not by the next or the last one alone.
func TestP4ClashWithAnyState(t *testing.T) {
	for at := 1; at <= 5; at++ {
		s := annals.New()
		begin(t, s, 1)
		put(t, s, 1, "mine", "", api.OK)
		for n := 1; n <= 5; n++ {
			begin(t, s, n+1)
			put(t, s, n+1, "other", "", api.OK)
			if n == at {
				del(t, s, n+1, "mine", api.OK)
			}
			commit(t, s, n+1, n, api.OK)
		}
		commit(t, s, 1, 0, api.ErrClash)
	}
}

func TestP4Abort(t *testing.T) {
	s := annals.New()
	begin(t, s, 1)
	put(t, s, 1, "a", "1", api.OK)
	abort(t, s, 1, api.OK)
	abort(t, s, 1, api.ErrNone)
	lacks(t, s, 1, "a", api.ErrNone)
	begin(t, s, 2)
	scan(t, s, 2, "", -1)
	put(t, s, 2, "a", "2", api.OK)
	commit(t, s, 2, 1, api.OK)
}
