// Package past keeps of each key what it was: its versions.
package past

import (
	"slices"
	"sort"
)

// Version is a key's value, or that it was deleted (Gone), with the state that put it so.
type Version struct {
	State int
	Value string
	Gone  bool
}

// Past has the versions of all keys; the zero Past has none.
type Past struct {
	keys     []string             // rising; so that a scan need not sort
	versions map[string][]Version // of each of keys, in rising order of their states
}

// At tells a key's version of a state, if it has one there.
func (p *Past) At(key string, state int) (Version, bool) {
	all := p.versions[key]
	n := upTo(all, state)
	if n == 0 {
		return Version{}, false
	}
	return all[n-1], true
}

// upTo tells how many of a key's versions are not above a state.
func upTo(all []Version, state int) int {
	return sort.Search(len(all), func(i int) bool { return all[i].State > state })
}

// Last tells the last state that has put or deleted a key, 0 if none has.
func (p *Past) Last(key string) int {
	all := p.versions[key]
	if len(all) == 0 {
		return 0
	}
	return all[len(all)-1].State
}

// Keys tells the keys that have versions, not below from, in rising order. The list is to be read only.
func (p *Past) Keys(from string) []string {
	at, _ := slices.BinarySearch(p.keys, from)
	return p.keys[at:len(p.keys):len(p.keys)]
}

// Count tells how many versions there are.
func (p *Past) Count() int {
	n := 0
	for _, all := range p.versions {
		n += len(all)
	}
	return n
}

// Add adds a version; its state is above all those that the key has.
func (p *Past) Add(key string, v Version) {
	if p.versions == nil {
		p.versions = map[string][]Version{}
	}
	all, known := p.versions[key]
	if !known {
		at, _ := slices.BinarySearch(p.keys, key)
		p.keys = slices.Insert(p.keys, at, key)
	}
	p.versions[key] = append(all, v)
}

// Drop takes back the Add that gave a key its last version.
func (p *Past) Drop(key string) {
	all := p.versions[key]
	if len(all) == 0 {
		return
	}
	last := len(all) - 1
	clear(all[last:]) // or its value would be kept alive behind the end
	p.versions[key] = all[:last:last]
	if last == 0 {
		p.forget(key)
	}
}

// forget removes a key that has no version left.
func (p *Past) forget(key string) {
	delete(p.versions, key)
	if at, found := slices.BinarySearch(p.keys, key); found {
		p.keys = slices.Delete(p.keys, at, at+1)
	}
}

// Sweep throws away what no state from least on needs, and tells how many versions that were. How each of its steps is
// taken back it tells undoBy ahead of doing it.
func (p *Past) Sweep(least int, undoBy func(step func())) int {
	thrown := 0
	var left []string
	for _, key := range p.keys {
		all := p.versions[key]
		n := needless(all, least)
		if n < len(all) {
			left = append(left, key)
		}
		if n > 0 {
			undoBy(func() { p.versions[key] = all })
			p.throw(key, n)
			thrown += n
		}
	}
	old := p.keys
	undoBy(func() { p.keys = old })
	p.keys = left
	return thrown
}

// needless tells how many of a key's first versions no state from least on needs: those below its version of that
// state, and that one too, if it tells that the key was deleted.
func needless(all []Version, least int) int {
	n := upTo(all, least)
	if n > 0 && !all[n-1].Gone {
		n--
	}
	return n
}

// throw cuts the first versions of a key off. The rest moves to memory of its own, since none of the old capacity is
// left to it: the old list stays whole until nobody can want it back, and then goes with all that was thrown away.
func (p *Past) throw(key string, n int) {
	all := p.versions[key]
	if n == len(all) {
		delete(p.versions, key)
		return
	}
	p.versions[key] = append(all[:0:0], all[n:]...)
}
