// Package annals: a store of all its yesterdays, and copies of them: see DOC.md.
package annals

import (
	"errors"
	"strings"

	"annals/api"
	"annals/bounds"
	"annals/past"
	"annals/stream"
)

// Store keeps values under keys, and what they were. The zero Store is one at the state 0.
type Store struct {
	now      int             // the number of the last state
	floor    int             // the least state that is whole
	begun    int             // the number of the last work
	works    map[int]*work   // the open ones
	pins     map[int]int     // of each pinned state, how often it is
	started  int             // the number of the last copying
	copyings map[int]copying // the open ones
	past     past.Past
}

// New makes a store (P3).
func New() *Store { return &Store{} }

// Begin begins a work (P3).
func (s *Store) Begin() (number int, err api.Errno) {
	var c change
	defer func() { c.settle(recover(), &err) }()
	if s == nil {
		return 0, api.ErrNone
	}
	if len(s.works) >= api.MaxOpen {
		return 0, api.ErrFull
	}
	if s.works == nil {
		assign(&c, &s.works, map[int]*work{})
	}
	assign(&c, &s.begun, s.begun+1)
	enter(&c, s.works, s.begun, &work{began: s.now, writes: map[string]past.Version{}})
	return s.begun, api.OK
}

// Get tells a value (P3).
func (s *Store) Get(work int, key string) (string, api.Errno) {
	w := s.find(work)
	if w == nil {
		return "", api.ErrNone
	}
	if !bounds.IsKey(key) {
		return "", api.ErrText
	}
	value, stands := s.see(w, key)
	if !stands {
		return "", api.ErrNone
	}
	return value, api.OK
}

// Put puts one (P3).
func (s *Store) Put(work int, key string, value string) api.Errno {
	return s.write(work, key, past.Version{Value: value})
}

// Delete deletes a key (P3).
func (s *Store) Delete(work int, key string) api.Errno {
	return s.write(work, key, past.Version{Gone: true})
}

// write notes what a work has put or deleted.
func (s *Store) write(work int, key string, v past.Version) (err api.Errno) {
	var c change
	defer func() { c.settle(recover(), &err) }()
	w := s.find(work)
	if w == nil {
		return api.ErrNone
	}
	if !bounds.IsKey(key) || !bounds.IsValue(v.Value) {
		return api.ErrText
	}
	if _, again := w.writes[key]; !again && len(w.writes) >= api.MaxWrites {
		return api.ErrFull
	}
	v.Value = strings.Clone(v.Value) // a short text may be a piece of a long one, which is not to be kept
	enter(&c, w.writes, strings.Clone(key), v)
	return api.OK
}

// Scan tells keys and values (P3).
func (s *Store) Scan(work int, from string, most int) ([]api.Pair, api.Errno) {
	w := s.find(work)
	if w == nil {
		return nil, api.ErrNone
	}
	if len(from) > api.MaxKey {
		return nil, api.ErrText
	}
	var pairs []api.Pair
	for key := range merged(s.past.Keys(from), w.keys(from)) {
		if len(pairs) == most {
			break
		}
		if value, stands := s.see(w, key); stands {
			pairs = append(pairs, api.Pair{Key: key, Value: value})
		}
	}
	return pairs, api.OK
}

// Commit makes a work the next state (P4).
func (s *Store) Commit(work int) (state int, err api.Errno) {
	var c change
	defer func() { c.settle(recover(), &err) }()
	w := s.find(work)
	if w == nil {
		return 0, api.ErrNone
	}
	if len(w.writes) == 0 {
		remove(&c, s.works, work)
		return w.began, api.OK
	}
	if s.now >= api.MaxState {
		return 0, api.ErrFull
	}
	if err := s.become(&c, w); err != api.OK {
		delete(s.works, work) // past the change, which takes all else back: a work that clashes is over, too
		return 0, err
	}
	remove(&c, s.works, work)
	return s.now, api.OK
}

// Abort ends a work (P4).
func (s *Store) Abort(work int) (err api.Errno) {
	var c change
	defer func() { c.settle(recover(), &err) }()
	if s.find(work) == nil {
		return api.ErrNone
	}
	remove(&c, s.works, work)
	return api.OK
}

// Pin holds a state (P5).
func (s *Store) Pin(state int) (err api.Errno) {
	var c change
	defer func() { c.settle(recover(), &err) }()
	if s == nil {
		return api.ErrNone
	}
	if !s.has(state) {
		return api.ErrPast
	}
	if s.pins == nil {
		assign(&c, &s.pins, map[int]int{})
	}
	enter(&c, s.pins, state, s.pins[state]+1)
	return api.OK
}

// Unpin lets it go (P5).
func (s *Store) Unpin(state int) (err api.Errno) {
	var c change
	defer func() { c.settle(recover(), &err) }()
	if s == nil || s.pins[state] == 0 {
		return api.ErrNone
	}
	if s.pins[state] == 1 {
		remove(&c, s.pins, state)
	} else {
		enter(&c, s.pins, state, s.pins[state]-1)
	}
	return api.OK
}

// Sweep throws old versions away (P5).
func (s *Store) Sweep() int {
	var c change
	var err api.Errno // for nobody to hear: a Sweep that breaks off has thrown nothing away
	defer func() { c.settle(recover(), &err) }()
	if s == nil {
		return 0
	}
	least := s.leastHeld()
	assign(&c, &s.floor, least)
	return s.past.Sweep(least, c.undoBy)
}

// Look tells how the store stands (P5).
func (s *Store) Look() api.State {
	if s == nil {
		return api.State{}
	}
	return api.State{
		Now: s.now, Floor: s.floor, Open: len(s.works), Pins: s.allPins(),
		Versions: s.past.Count(), Copies: len(s.copyings),
	}
}

// Encode writes a stream (P6).
func Encode(x api.Stream) (string, api.Errno) {
	text, err := stream.Write(x)
	if err != nil {
		return "", api.ErrForm
	}
	return text, api.OK
}

// Decode reads one (P6).
func Decode(text string) (api.Stream, int, api.Errno) {
	x, err := stream.Read(text)
	if err == nil {
		return x, 0, api.OK
	}
	if errors.Is(err, stream.ErrSum) {
		return api.Stream{}, 0, api.ErrSum
	}
	return api.Stream{}, placeOf(err), api.ErrForm
}

// placeOf tells the place of a fault in a text, 0 if an error has none.
func placeOf(err error) int {
	var fault *stream.Fault
	if errors.As(err, &fault) {
		return fault.Place
	}
	return 0
}

// Merge puts streams together (P7).
func Merge(texts []string) (string, api.Errno) {
	if len(texts) == 0 {
		return "", api.ErrForm
	}
	var c stream.Chain
	follow := true
	for _, text := range texts {
		x, _, err := Decode(text)
		if err != api.OK {
			return "", api.ErrForm // also behind one that does not follow: that is named later
		}
		follow = follow && c.Add(x)
	}
	if !follow {
		return "", api.ErrChain
	}
	return Encode(c.Stream())
}

// Start begins a copying (P8).
func (s *Store) Start(full bool, from int, to int) (number int, err api.Errno) {
	var c change
	defer func() { c.settle(recover(), &err) }()
	if s == nil {
		return 0, api.ErrNone
	}
	x := copying{full: full, from: from, to: to}
	if err := s.judge(x); err != api.OK {
		return 0, err
	}
	if s.copyings == nil {
		assign(&c, &s.copyings, map[int]copying{})
	}
	assign(&c, &s.started, s.started+1)
	enter(&c, s.copyings, s.started, x)
	return s.started, api.OK
}

// Next tells its next piece (P8).
func (s *Store) Next(copying int) (piece string, over bool, err api.Errno) {
	var c change
	defer func() { c.settle(recover(), &err) }()
	x, open := s.findCopying(copying)
	if !open {
		return "", false, api.ErrNone
	}
	text, last := s.goOn(&x)
	if last {
		remove(&c, s.copyings, copying)
	} else {
		enter(&c, s.copyings, copying, x)
	}
	return text, last, api.OK
}

// Stop ends it (P8).
func (s *Store) Stop(copying int) (err api.Errno) {
	var c change
	defer func() { c.settle(recover(), &err) }()
	if _, open := s.findCopying(copying); !open {
		return api.ErrNone
	}
	remove(&c, s.copyings, copying)
	return api.OK
}

// Restore makes a store of a stream (P9).
func Restore(text string) (*Store, api.Errno) {
	x, _, err := Decode(text)
	if err != api.OK || !x.Full {
		return nil, api.ErrForm
	}
	var c change // nobody has the store yet who could want it put right
	s := New()
	s.follow(&c, x)
	s.floor = s.now
	return s, api.OK
}

// Apply brings a store on by a stream (P9).
func (s *Store) Apply(text string) (err api.Errno) {
	var c change
	defer func() { c.settle(recover(), &err) }()
	if s == nil {
		return api.ErrNone
	}
	x, _, wrong := Decode(text)
	switch {
	case wrong != api.OK || x.Full:
		return api.ErrForm
	case x.From != s.now:
		return api.ErrChain
	case len(s.works) > 0:
		return api.ErrBusy
	}
	s.follow(&c, x)
	return api.OK
}
