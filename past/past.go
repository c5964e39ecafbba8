// Package past keeps of each key what it was: its versions.
package past

import (
	"slices"
	"sort"
)

// Version is a key's value, or that it was deleted (Gone), with the state that put it so.
type Version struct {
	State int
	Value string
	Gone  bool
}

// Past has the versions of all keys; the zero Past has none.
type Past struct {
	keys     []string             // rising; so that a scan need not sort
	versions map[string][]Version // of each of keys, in rising order of their states
}

// At tells a key's version of a state, if it has one there.
func (p *Past) At(key string, state int) (Version, bool) {
	all := p.versions[key]
	n := sort.Search(len(all), func(i int) bool { return all[i].State > state })
	if n == 0 {
		return Version{}, false
	}
	return all[n-1], true
}

// Last tells the last state that has put or deleted a key, 0 if none has.
func (p *Past) Last(key string) int {
	all := p.versions[key]
	if len(all) == 0 {
		return 0
	}
	return all[len(all)-1].State
}

// Keys tells the keys that have versions, not below from, in rising order. The list is to be read only.
func (p *Past) Keys(from string) []string {
	at, _ := slices.BinarySearch(p.keys, from)
	return p.keys[at:len(p.keys):len(p.keys)]
}

// Add adds a version; its state is above all those that the key has.
func (p *Past) Add(key string, v Version) {
	if p.versions == nil {
		p.versions = map[string][]Version{}
	}
	all, known := p.versions[key]
	if !known {
		at, _ := slices.BinarySearch(p.keys, key)
		p.keys = slices.Insert(p.keys, at, key)
	}
	p.versions[key] = append(all, v)
}

// Drop takes back the Add that gave a key its last version.
func (p *Past) Drop(key string) {
	all := p.versions[key]
	if len(all) == 0 {
		return
	}
	last := len(all) - 1
	clear(all[last:]) // or its value would be kept alive behind the end
	p.versions[key] = all[:last:last]
	if last == 0 {
		p.forget(key)
	}
}

// forget removes a key that has no version left.
func (p *Past) forget(key string) {
	delete(p.versions, key)
	if at, found := slices.BinarySearch(p.keys, key); found {
		p.keys = slices.Delete(p.keys, at, at+1)
	}
}
