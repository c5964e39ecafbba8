package annals_test

// What the model says of copyings, and of streams that are restored and applied.

import (
	"maps"
	"math/rand"
	"slices"
	"strings"
	"testing"

	"annals/annals"
	"annals/api"
)

type modelCopy struct {
	states []int
	rest   []string // the pieces that are to be told
}

// restoredModel is a model of what is restored: it has states below the floor, of which nobody asks.
func restoredModel(x api.Stream) *model {
	m := newModel()
	m.wrote[0] = map[string]int{}
	for m.now() < x.To {
		m.states, m.wrote = append(m.states, map[string]string{}), append(m.wrote, map[string]int{})
	}
	m.floor = x.To
	m.take(x)
	return m
}

// take makes what a stream tells of the last state.
func (m *model) take(x api.Stream) {
	for _, r := range x.Records {
		if r.Gone {
			delete(m.states[x.To], r.Key)
		} else {
			m.states[x.To][r.Key] = r.Value
		}
		m.wrote[x.To][r.Key] = 1
		m.versions = append(m.versions, modelVersion{r.Key, x.To, r.Gone})
	}
}

func (m *model) apply(x api.Stream) api.Errno {
	switch {
	case x.Full:
		return api.ErrForm
	case x.From != m.now():
		return api.ErrChain
	case len(m.works) > 0:
		return api.ErrBusy
	}
	for m.now() < x.To {
		m.states, m.wrote = append(m.states, maps.Clone(m.states[m.now()])), append(m.wrote, map[string]int{})
	}
	m.take(x)
	return api.OK
}

// stream tells the stream of some states.
func (m *model) stream(full bool, from, to int) api.Stream {
	x := api.Stream{Full: full, From: from, To: to}
	keys := map[string]int{}
	if full {
		for key := range m.states[to] {
			keys[key]++
		}
	} else {
		for _, wrote := range m.wrote[from+1 : to+1] {
			for key := range wrote {
				keys[key]++
			}
		}
	}
	for _, key := range slices.Sorted(maps.Keys(keys)) {
		value, stands := m.states[to][key]
		x.Records = append(x.Records, api.Record{Key: key, Value: value, Gone: !stands})
	}
	return x
}

func (m *model) start(t *testing.T, full bool, from, to int) (int, api.Errno) {
	there := func(state int) bool { return state >= m.floor && state <= m.now() }
	states := []int{to}
	if !full {
		states = []int{from, to}
	}
	switch {
	case !there(states[0]) || !there(to):
		return 0, api.ErrPast
	case full && from != 0 || !full && from >= to:
		return 0, api.ErrForm
	case len(m.copies) == 4:
		return 0, api.ErrFull
	}
	m.started++
	m.copies[m.started] = &modelCopy{states: states, rest: pieces(t, m.stream(full, from, to))}
	return m.started, api.OK
}

func (m *model) next(copying int) (string, bool, api.Errno) {
	c := m.copies[copying]
	if c == nil {
		return "", false, api.ErrNone
	}
	text := c.rest[0]
	c.rest = c.rest[1:]
	if len(c.rest) == 0 {
		delete(m.copies, copying)
		return text, true, api.OK
	}
	return text, false, api.OK
}

func (m *model) stop(copying int) api.Errno {
	if m.copies[copying] == nil {
		return api.ErrNone
	}
	delete(m.copies, copying)
	return api.OK
}

// pickCopy gives mostly a copying that is open.
func pickCopy(r *rand.Rand, m *model) int {
	if open := slices.Sorted(maps.Keys(m.copies)); len(open) > 0 && r.Intn(8) > 0 {
		return open[r.Intn(len(open))]
	}
	return m.started + 1 - r.Intn(6)
}

// pickStream makes a stream that mostly follows what is now.
func pickStream(r *rand.Rand, m *model) api.Stream {
	x := api.Stream{From: m.now(), To: m.now() + 1 + r.Intn(3)}
	switch r.Intn(6) {
	case 0:
		x.From--
	case 1:
		x.Full, x.From = true, 0
	}
	if x.From < 0 {
		x.From = 0
	}
	keys := map[string]int{}
	for range r.Intn(6) {
		if key := pick(r); len(key) >= 1 && len(key) <= 10 {
			keys[key]++
		}
	}
	for _, key := range slices.Sorted(maps.Keys(keys)) {
		record := api.Record{Key: key, Gone: !x.Full && r.Intn(2) == 0}
		if !record.Gone {
			record.Value = strings.Repeat("v", r.Intn(41))
		}
		x.Records = append(x.Records, record)
	}
	return x
}

// copyStep starts, goes on with or stops a copying, or applies a stream.
func copyStep(t *testing.T, r *rand.Rand, s *annals.Store, m *model) {
	t.Helper()
	copying := pickCopy(r, m)
	switch kind := r.Intn(20); {
	case kind < 5:
		state := func() int { return m.floor - 1 + r.Intn(m.now()-m.floor+3) }
		full, from, to := r.Intn(2) == 0, state(), state()
		if full && r.Intn(4) > 0 {
			from = 0
		}
		n, err := s.Start(full, from, to)
		if wn, werr := m.start(t, full, from, to); n != wn || err != werr {
			t.Errorf("Start(%v, %d, %d) = %d, %d, want %d, %d", full, from, to, n, err, wn, werr)
		}
	case kind < 16:
		text, over, err := s.Next(copying)
		if wt, wo, werr := m.next(copying); text != wt || over != wo || err != werr {
			t.Errorf("Next(%d) = %q, %v, %d, want %q, %v, %d", copying, text, over, err, wt, wo, werr)
		}
	case kind < 18:
		stop(t, s, copying, m.stop(copying))
	default:
		x := pickStream(r, m)
		for _, work := range slices.Sorted(maps.Keys(m.works)) { // or it would hardly ever be without one
			if r.Intn(8) > 0 {
				abort(t, s, work, m.abort(work))
			}
		}
		apply(t, s, encode(t, x), m.apply(x))
	}
}
