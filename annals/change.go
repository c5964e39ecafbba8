package annals

import (
	"slices"

	"annals/api"
)

// change is what one call does to a store, told by the steps that take it back.
type change struct {
	back []func()
}

// settle is what the deferred function of a call hands over to: it puts the store right, if the call answers an error
// or broke off (broke is what recover gave).
func (c *change) settle(broke any, err *api.Errno) {
	if broke != nil {
		*err = api.ErrFull // no call is known to break off; if one does, something has run out
	}
	if *err == api.OK {
		return
	}
	for _, step := range slices.Backward(c.back) {
		step()
	}
}

// undoBy notes how to take back what has just been done.
func (c *change) undoBy(step func()) {
	c.back = append(c.back, step)
}

// assign gives a place a new value.
func assign[V any](c *change, place *V, value V) {
	old := *place
	c.undoBy(func() { *place = old })
	*place = value
}

// enter puts a value into a map.
func enter[K comparable, V any](c *change, m map[K]V, key K, value V) {
	c.undoBy(putBack(m, key))
	m[key] = value
}

// remove takes a key out of a map.
func remove[K comparable, V any](c *change, m map[K]V, key K) {
	c.undoBy(putBack(m, key))
	delete(m, key)
}

// putBack makes the step that gives a map again what it has under a key now.
func putBack[K comparable, V any](m map[K]V, key K) func() {
	old, had := m[key]
	return func() {
		if had {
			m[key] = old
		} else {
			delete(m, key)
		}
	}
}
