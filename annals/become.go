package annals

import (
	"annals/api"
	"annals/past"
)

// become makes what a work has put and deleted the next state. It finds a clash only on the way: what was added until
// then is for the change to take back.
func (s *Store) become(c *change, w *work) api.Errno {
	state := s.now + 1
	for _, key := range w.keys("") {
		if s.past.Last(key) > w.began {
			return api.ErrClash
		}
		v := w.writes[key]
		v.State = state
		s.add(c, key, v)
	}
	assign(c, &s.now, state)
	return api.OK
}

// add gives a key a version.
func (s *Store) add(c *change, key string, v past.Version) {
	s.past.Add(key, v)
	c.undoBy(func() { s.past.Drop(key) })
}

// follow makes what a stream tells the state at which it ends.
func (s *Store) follow(c *change, x api.Stream) {
	for _, r := range x.Records {
		s.add(c, r.Key, past.Version{State: x.To, Value: r.Value, Gone: r.Gone})
	}
	assign(c, &s.now, x.To)
}
