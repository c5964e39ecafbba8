package annals_test

// P2: lists that come out are new memory; stores know nothing of each other.

import (
	"slices"
	"testing"

	"annals/annals"
	"annals/api"
)

func TestP2ListsAreNew(t *testing.T) {
	s := annals.New()
	begin(t, s, 1)
	for _, key := range []string{"a", "b", "c", "d", "e"} {
		put(t, s, 1, key, "1", api.OK)
	}
	commit(t, s, 1, 1, api.OK)
	begin(t, s, 2)
	put(t, s, 2, "f", "2", api.OK)
	want := []string{"a", "1", "b", "1", "c", "1", "d", "1", "e", "1", "f", "2"}
	before, _ := s.Scan(2, "", -1)
	for _, most := range []int{0, 1, 3, 5, 6, -1} {
		list, _ := s.Scan(2, "", most)
		list = list[:cap(list)]
		for i := range list {
			list[i] = api.Pair{Key: "spoilt", Value: "spoilt"}
		}
		_ = append(list, api.Pair{Key: "spoilt"})
		scan(t, s, 2, "", -1, want...)
	}
	if !slices.Equal(flat(before), want) {
		t.Errorf("a list that came out before is now %q", before)
	}
	commit(t, s, 2, 2, api.OK)
	begin(t, s, 3)
	scan(t, s, 3, "", -1, want...)
}

// A list that has come out does not change, whatever is done with the store.
func TestP2ListsStay(t *testing.T) {
	s := annals.New()
	begin(t, s, 1)
	put(t, s, 1, "a", "1", api.OK)
	put(t, s, 1, "b", "1", api.OK)
	own, _ := s.Scan(1, "", -1)
	commit(t, s, 1, 1, api.OK)
	begin(t, s, 2)
	old, _ := s.Scan(2, "", -1)
	put(t, s, 2, "a", "2", api.OK)
	del(t, s, 2, "b", api.OK)
	put(t, s, 2, "aa", "2", api.OK)
	commit(t, s, 2, 2, api.OK)
	for _, list := range [][]api.Pair{own, old} {
		if !slices.Equal(flat(list), []string{"a", "1", "b", "1"}) {
			t.Errorf("a list has become %q", list)
		}
	}
}

func TestP2StoresAreApart(t *testing.T) {
	one, two := annals.New(), annals.New()
	begin(t, one, 1)
	begin(t, one, 2)
	begin(t, two, 1)
	put(t, one, 1, "a", "one", api.OK)
	lacks(t, two, 1, "a", api.ErrNone)
	commit(t, one, 1, 1, api.OK)
	put(t, two, 1, "a", "two", api.OK)
	lacks(t, two, 2, "a", api.ErrNone)
	commit(t, two, 1, 1, api.OK)
	begin(t, two, 2)
	begin(t, one, 3)
	get(t, two, 2, "a", "two")
	get(t, one, 3, "a", "one")
	pin(t, one, 0, api.OK)
	unpin(t, two, 0, api.ErrNone)
	abort(t, two, 2, api.OK)
	sweep(t, two, 0)
	look(t, two, api.State{Now: 1, Floor: 1, Versions: 1})
	look(t, one, api.State{Now: 1, Open: 2, Pins: 1, Versions: 1})
}
