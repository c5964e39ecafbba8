package annals

import (
	"annals/api"
	"annals/past"
	"annals/stream"
)

// copying is one that is open. It keeps none of the records: the states that it needs are held.
type copying struct {
	full     bool
	from, to int
	headed   bool   // whether the first piece has been told
	next     string // keys below it have been told
	writer   stream.Writer
}

// leastNeeded tells the least state that it needs.
func (x copying) leastNeeded() int {
	if x.full {
		return x.to
	}
	return x.from
}

// tells whether a key's version of the state at which it ends belongs in its stream.
func (x copying) tells(v past.Version) bool {
	if x.full {
		return !v.Gone
	}
	return v.State > x.from
}

// findCopying gives the open copying of a number, if there is one.
func (s *Store) findCopying(number int) (copying, bool) {
	if s == nil {
		return copying{}, false
	}
	x, open := s.copyings[number]
	return x, open
}

// judge tells why a copying can't be started, OK if it can.
func (s *Store) judge(x copying) api.Errno {
	switch {
	case !s.has(x.to) || !x.full && !s.has(x.from):
		return api.ErrPast
	case !stream.StatesFit(x.full, x.from, x.to):
		return api.ErrForm
	case len(s.copyings) >= api.MaxCopies || len(s.toTell(x, api.MaxRecords+1)) > api.MaxRecords:
		return api.ErrFull
	}
	return api.OK
}

// goOn brings a copying on by a piece, and tells that, and whether it is the last.
func (s *Store) goOn(x *copying) (string, bool) {
	if !x.headed {
		x.headed = true
		return x.writer.Head(x.full, x.from, x.to), false
	}
	records := s.toTell(*x, api.MaxBlock)
	if len(records) == 0 {
		return x.writer.Tail(), true
	}
	x.next = records[len(records)-1].Key + "\x00" // no text is between the two
	return x.writer.Block(records), false
}

// toTell tells the records that a copying has not told yet, at most so many.
func (s *Store) toTell(x copying, most int) []api.Record {
	var list []api.Record
	for _, key := range s.past.Keys(x.next) {
		if len(list) == most {
			break
		}
		if v, found := s.past.At(key, x.to); found && x.tells(v) {
			list = append(list, api.Record{Key: key, Value: v.Value, Gone: v.Gone})
		}
	}
	return list
}
