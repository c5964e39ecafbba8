package annals_test

import (
	"slices"
	"strings"
	"testing"

	"annals/annals"
	"annals/api"
)

// begin begins a work that must get that number.
func begin(t *testing.T, s *annals.Store, want int) {
	t.Helper()
	if n, err := s.Begin(); n != want || err != api.OK {
		t.Fatalf("Begin() = %d, %d, want %d", n, err, want)
	}
}

func put(t *testing.T, s *annals.Store, work int, key, value string, want api.Errno) {
	t.Helper()
	if err := s.Put(work, key, value); err != want {
		t.Errorf("Put(%d, %.20q, %.50q) = %d, want %d", work, key, value, err, want)
	}
}

func del(t *testing.T, s *annals.Store, work int, key string, want api.Errno) {
	t.Helper()
	if err := s.Delete(work, key); err != want {
		t.Errorf("Delete(%d, %.20q) = %d, want %d", work, key, err, want)
	}
}

func get(t *testing.T, s *annals.Store, work int, key, want string) {
	t.Helper()
	if v, err := s.Get(work, key); v != want || err != api.OK {
		t.Errorf("Get(%d, %q) = %q, %d, want %q", work, key, v, err, want)
	}
}

// lacks asks for a value that must not be there, for that reason.
func lacks(t *testing.T, s *annals.Store, work int, key string, want api.Errno) {
	t.Helper()
	if v, err := s.Get(work, key); v != "" || err != want {
		t.Errorf("Get(%d, %.20q) = %q, %d, want the error %d", work, key, v, err, want)
	}
}

func commit(t *testing.T, s *annals.Store, work, want int, wantErr api.Errno) {
	t.Helper()
	if n, err := s.Commit(work); n != want || err != wantErr {
		t.Errorf("Commit(%d) = %d, %d, want %d, %d", work, n, err, want, wantErr)
	}
}

func abort(t *testing.T, s *annals.Store, work int, want api.Errno) {
	t.Helper()
	if err := s.Abort(work); err != want {
		t.Errorf("Abort(%d) = %d, want %d", work, err, want)
	}
}

// scan asks for keys and values; they are told as key, value, key, value.
func scan(t *testing.T, s *annals.Store, work int, from string, most int, want ...string) {
	t.Helper()
	list, err := s.Scan(work, from, most)
	if got := flat(list); !slices.Equal(got, want) || err != api.OK {
		t.Errorf("Scan(%d, %q, %d) = %q, %d, want %q", work, from, most, got, err, want)
	}
}

func flat(list []api.Pair) []string {
	var out []string
	for _, p := range list {
		out = append(out, p.Key, p.Value)
	}
	return out
}

func pin(t *testing.T, s *annals.Store, state int, want api.Errno) {
	t.Helper()
	if err := s.Pin(state); err != want {
		t.Errorf("Pin(%d) = %d, want %d", state, err, want)
	}
}

func unpin(t *testing.T, s *annals.Store, state int, want api.Errno) {
	t.Helper()
	if err := s.Unpin(state); err != want {
		t.Errorf("Unpin(%d) = %d, want %d", state, err, want)
	}
}

func sweep(t *testing.T, s *annals.Store, want int) {
	t.Helper()
	if n := s.Sweep(); n != want {
		t.Errorf("Sweep() = %d, want %d", n, want)
	}
}

func look(t *testing.T, s *annals.Store, want api.State) {
	t.Helper()
	if got := s.Look(); got != want {
		t.Errorf("Look() = %+v, want %+v", got, want)
	}
}

// next makes the next state by a work of its own: "a=x" puts, "-a" deletes.
func next(t *testing.T, s *annals.Store, writes ...string) {
	t.Helper()
	work, err := s.Begin()
	if err != api.OK {
		t.Fatalf("Begin() = %d", err)
	}
	for _, text := range writes {
		if key, gone := strings.CutPrefix(text, "-"); gone {
			del(t, s, work, key, api.OK)
		} else {
			key, value, _ := strings.Cut(text, "=")
			put(t, s, work, key, value, api.OK)
		}
	}
	commit(t, s, work, s.Look().Now+1, api.OK)
}
