package annals_test

// P3 to P5, and P8 to P10, held against a plain model: every state kept whole, and a list of all versions.

import (
	"maps"
	"math/rand"
	"slices"
	"strings"
	"testing"

	"annals/annals"
	"annals/api"
)

type modelWork struct {
	began   int
	sees    map[string]string
	written map[string]int
}

type modelVersion struct {
	key   string
	state int
	gone  bool
}

type model struct {
	states   []map[string]string
	wrote    []map[string]int // the keys that each state has put or deleted
	works    map[int]*modelWork
	begun    int
	versions []modelVersion
	pins     []int
	floor    int
	copies   map[int]*modelCopy
	started  int
}

func newModel() *model {
	return &model{
		states: []map[string]string{{}}, wrote: []map[string]int{nil},
		works: map[int]*modelWork{}, copies: map[int]*modelCopy{},
	}
}

func (m *model) now() int { return len(m.states) - 1 }

func (m *model) begin() (int, api.Errno) {
	if len(m.works) == 8 {
		return 0, api.ErrFull
	}
	m.begun++
	m.works[m.begun] = &modelWork{began: m.now(), sees: maps.Clone(m.states[m.now()]), written: map[string]int{}}
	return m.begun, api.OK
}

func (m *model) write(work int, key, value string, gone bool) api.Errno {
	w := m.works[work]
	switch {
	case w == nil:
		return api.ErrNone
	case len(key) < 1 || len(key) > 10 || len(value) > 40:
		return api.ErrText
	case len(w.written) == 30 && w.written[key] == 0:
		return api.ErrFull
	}
	w.written[key] = 1
	if gone {
		delete(w.sees, key)
	} else {
		w.sees[key] = value
	}
	return api.OK
}

func (m *model) get(work int, key string) (string, api.Errno) {
	w := m.works[work]
	if w == nil {
		return "", api.ErrNone
	}
	if len(key) < 1 || len(key) > 10 {
		return "", api.ErrText
	}
	v, ok := w.sees[key]
	if !ok {
		return "", api.ErrNone
	}
	return v, api.OK
}

func (m *model) scan(work int, from string, most int) ([]api.Pair, api.Errno) {
	w := m.works[work]
	if w == nil {
		return nil, api.ErrNone
	}
	if len(from) > 10 {
		return nil, api.ErrText
	}
	var out []api.Pair
	for _, key := range slices.Sorted(maps.Keys(w.sees)) {
		if key >= from && (most < 0 || len(out) < most) {
			out = append(out, api.Pair{Key: key, Value: w.sees[key]})
		}
	}
	return out, api.OK
}

func (m *model) commit(work int) (int, api.Errno) {
	w := m.works[work]
	if w == nil {
		return 0, api.ErrNone
	}
	delete(m.works, work)
	if len(w.written) == 0 {
		return w.began, api.OK
	}
	next := maps.Clone(m.states[m.now()])
	for key := range w.written {
		for _, wrote := range m.wrote[w.began+1:] {
			if wrote[key] != 0 {
				return 0, api.ErrClash
			}
		}
		if v, ok := w.sees[key]; ok {
			next[key] = v
		} else {
			delete(next, key)
		}
	}
	for key := range w.written {
		_, stands := next[key]
		m.versions = append(m.versions, modelVersion{key, m.now() + 1, !stands})
	}
	m.states = append(m.states, next)
	m.wrote = append(m.wrote, w.written)
	return m.now(), api.OK
}

func (m *model) pin(state int) api.Errno {
	if state < m.floor || state > m.now() {
		return api.ErrPast
	}
	m.pins = append(m.pins, state)
	return api.OK
}

func (m *model) unpin(state int) api.Errno {
	at := slices.Index(m.pins, state)
	if at < 0 {
		return api.ErrNone
	}
	m.pins = slices.Delete(m.pins, at, at+1)
	return api.OK
}

func (m *model) sweep() int {
	held := append([]int{m.now()}, m.pins...)
	for _, w := range m.works {
		held = append(held, w.began)
	}
	for _, c := range m.copies {
		held = append(held, c.states...)
	}
	m.floor = slices.Min(held)
	of := map[string]int{} // each key's version of the floor
	for _, v := range m.versions {
		if v.state <= m.floor {
			of[v.key] = max(of[v.key], v.state)
		}
	}
	before := len(m.versions)
	m.versions = slices.DeleteFunc(m.versions, func(v modelVersion) bool {
		return v.state < of[v.key] || v.state == of[v.key] && v.gone
	})
	return before - len(m.versions)
}

func (m *model) look() api.State {
	return api.State{
		Now: m.now(), Floor: m.floor, Open: len(m.works), Pins: len(m.pins), Versions: len(m.versions), Copies: len(m.copies),
	}
}

func (m *model) abort(work int) api.Errno {
	if m.works[work] == nil {
		return api.ErrNone
	}
	delete(m.works, work)
	return api.OK
}

// pick gives a text over few letters, so that keys meet; now and then one that is no key.
func pick(r *rand.Rand) string {
	n := 1 + r.Intn(3)
	switch r.Intn(60) {
	case 0:
		n = 0
	case 1:
		n = 10
	case 2:
		n = 11
	}
	var b strings.Builder
	for range n {
		b.WriteByte("a\x00\xffz"[r.Intn(4)])
	}
	return b.String()
}

// pickWork gives mostly a work that is open.
func pickWork(r *rand.Rand, m *model) int {
	if open := slices.Sorted(maps.Keys(m.works)); len(open) > 0 && r.Intn(5) > 0 {
		return open[r.Intn(len(open))]
	}
	return m.begun + 1 - r.Intn(12)
}

func TestModel(t *testing.T) {
	for seed := range int64(30) {
		r := rand.New(rand.NewSource(seed))
		s, m := annals.New(), newModel()
		if seed%3 == 0 {
			x := chanceStream(r)
			x.Full, x.From = true, 0
			x.Records = slices.DeleteFunc(x.Records, func(r api.Record) bool { return r.Gone })
			s, m = restored(t, x), restoredModel(x)
		}
		first := m.now()
		for step := 0; step < 4000 && !t.Failed(); step++ {
			switch r.Intn(8) {
			case 0:
				heldStep(t, r, s, m)
			case 1:
				copyStep(t, r, s, m)
			default:
				modelStep(t, r, s, m)
			}
			look(t, s, m.look())
		}
		if m.now() < first+50 || m.floor < first+30 || m.started < 20 {
			t.Errorf("seed %d: only %d states have become, %d below the floor, %d copyings", seed, m.now()-first, m.floor-first, m.started)
		}
	}
}

// heldStep pins, unpins or sweeps. States far back are let go sooner or later, so that the floor comes on.
func heldStep(t *testing.T, r *rand.Rand, s *annals.Store, m *model) {
	t.Helper()
	state := m.floor - 1 + r.Intn(m.now()-m.floor+3)
	switch kind := r.Intn(10); {
	case kind < 3 && len(m.pins) < 6:
		pin(t, s, state, m.pin(state))
	case kind < 6:
		unpin(t, s, state, m.unpin(state))
	case kind < 8 && len(m.pins) > 0:
		state = m.pins[r.Intn(len(m.pins))]
		unpin(t, s, state, m.unpin(state))
	default:
		sweep(t, s, m.sweep())
	}
}

func modelStep(t *testing.T, r *rand.Rand, s *annals.Store, m *model) {
	t.Helper()
	work := pickWork(r, m)
	switch kind := r.Intn(40); {
	case kind < 4:
		n, err := s.Begin()
		if wn, werr := m.begin(); n != wn || err != werr {
			t.Errorf("Begin() = %d, %d, want %d, %d", n, err, wn, werr)
		}
	case kind < 20:
		key, value := pick(r), strings.Repeat(pick(r), r.Intn(5))
		put(t, s, work, key, value, m.write(work, key, value, false))
	case kind < 27:
		key := pick(r)
		del(t, s, work, key, m.write(work, key, "", true))
	case kind < 33:
		key := pick(r)
		v, err := s.Get(work, key)
		if wv, werr := m.get(work, key); v != wv || err != werr {
			t.Errorf("Get(%d, %q) = %q, %d, want %q, %d", work, key, v, err, wv, werr)
		}
	case kind < 37:
		from, most := strings.Repeat(pick(r), r.Intn(2)), r.Intn(20)-5
		list, err := s.Scan(work, from, most)
		if wl, werr := m.scan(work, from, most); !slices.Equal(list, wl) || err != werr {
			t.Errorf("Scan(%d, %q, %d) = %q, %d, want %q, %d", work, from, most, list, err, wl, werr)
		}
	case kind < 39:
		n, err := m.commit(work)
		commit(t, s, work, n, err)
	default:
		abort(t, s, work, m.abort(work))
	}
}
