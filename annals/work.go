package annals

import (
	"iter"
	"maps"
	"slices"

	"annals/past"
)

// work is one that is open.
type work struct {
	began  int                     // the state that it sees
	writes map[string]past.Version // what it has put and deleted; their state is not known before it is committed
}

// keys tells the keys that it has put or deleted, not below from, in rising order.
func (w *work) keys(from string) []string {
	all := slices.Sorted(maps.Keys(w.writes))
	at, _ := slices.BinarySearch(all, from)
	return all[at:]
}

// find gives the open work of a number, nil if there is none.
func (s *Store) find(number int) *work {
	if s == nil {
		return nil
	}
	return s.works[number]
}

// see tells what a work sees under a key, if that stands there.
func (s *Store) see(w *work, key string) (string, bool) {
	v, found := w.writes[key]
	if !found {
		v, found = s.past.At(key, w.began)
	}
	return v.Value, found && !v.Gone
}

// merged goes through two rising lists of keys as one, each key once.
func merged(a, b []string) iter.Seq[string] {
	return func(yield func(string) bool) {
		for len(a) > 0 || len(b) > 0 {
			key := least(a, b)
			a, b = behind(a, key), behind(b, key)
			if !yield(key) {
				return
			}
		}
	}
}

// least tells the first key of two rising lists that are not both empty.
func least(a, b []string) string {
	switch {
	case len(a) == 0:
		return b[0]
	case len(b) == 0:
		return a[0]
	}
	return min(a[0], b[0])
}

// behind gives the rest of a list behind a key, if it begins with that.
func behind(list []string, key string) []string {
	if len(list) > 0 && list[0] == key {
		return list[1:]
	}
	return list
}
