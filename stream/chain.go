package stream

import (
	"maps"
	"slices"

	"annals/api"
)

// Chain is what streams come to that follow each other; the zero Chain has none.
type Chain struct {
	full     bool
	from, to int
	last     map[string]api.Record // of each key the last record; in a full one none that is gone
}

// Add puts a stream behind the others. It tells whether it follows them (the first does), and adds it only then.
func (c *Chain) Add(x api.Stream) bool {
	if c.last == nil {
		*c = Chain{full: x.Full, from: x.From, last: map[string]api.Record{}}
	} else if x.Full || x.From != c.to {
		return false
	}
	c.to = x.To
	for _, r := range x.Records {
		if c.full && r.Gone {
			delete(c.last, r.Key)
		} else {
			c.last[r.Key] = r
		}
	}
	return true
}

// Stream tells what they come to: something like a stream, but that it may have too many records.
func (c *Chain) Stream() api.Stream {
	x := api.Stream{Full: c.full, From: c.from, To: c.to}
	for _, key := range slices.Sorted(maps.Keys(c.last)) {
		x.Records = append(x.Records, c.last[key])
	}
	return x
}
