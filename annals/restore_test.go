package annals_test

// P9: stores made of streams, and brought on by them; P10: what is carried over.

import (
	"math/rand"
	"slices"
	"strconv"
	"strings"
	"testing"
	"unsafe"

	"annals/annals"
	"annals/api"
)

// restored makes a store of a stream.
func restored(t *testing.T, x api.Stream) *annals.Store {
	t.Helper()
	s, err := annals.Restore(encode(t, x))
	if s == nil || err != api.OK {
		t.Fatalf("Restore of %.300v = %v, %d", x, s, err)
	}
	return s
}

func noRestore(t *testing.T, text string) {
	t.Helper()
	if s, err := annals.Restore(text); s != nil || err != api.ErrForm {
		t.Errorf("Restore(%.300q) = %v, %d", text, s, err)
	}
}

func apply(t *testing.T, s *annals.Store, text string, want api.Errno) {
	t.Helper()
	if err := s.Apply(text); err != want {
		t.Errorf("Apply(%.300q) = %d, want %d", text, err, want)
	}
}

// stands wants that, and nothing else, to stand in a store: key, value, key, value.
func stands(t *testing.T, s *annals.Store, want ...string) {
	t.Helper()
	if got := standing(t, s); !slices.Equal(got, want) {
		t.Errorf("there stands %q, want %q", got, want)
	}
}

func standing(t *testing.T, s *annals.Store) []string {
	t.Helper()
	work, err := s.Begin()
	if err != api.OK {
		t.Fatalf("Begin() = %d", err)
	}
	list, err := s.Scan(work, "", -1)
	if err != api.OK {
		t.Errorf("Scan = %d", err)
	}
	abort(t, s, work, api.OK)
	return flat(list)
}

func TestP9Restore(t *testing.T) {
	s := restored(t, full(0))
	look(t, s, api.State{})
	stands(t, s)
	s = restored(t, full(9))
	look(t, s, api.State{Now: 9, Floor: 9})
	stands(t, s)
	s = restored(t, full(9, "a=1", "b=", "c=3"))
	look(t, s, api.State{Now: 9, Floor: 9, Versions: 3})
	begin(t, s, 1) // its works and copyings are its own
	scan(t, s, 1, "", -1, "a", "1", "b", "", "c", "3")
	start(t, s, full(9), 1)
	copies(t, s, 1, 0, full(9, "a=1", "b=", "c=3"))
	for _, state := range []int{-1, 0, 8, 10} {
		pin(t, s, state, api.ErrPast)
		noStart(t, s, true, 0, state, api.ErrPast)
		noStart(t, s, false, state, 9, api.ErrPast)
	}
	pin(t, s, 9, api.OK)
	commit(t, s, 1, 9, api.OK)
	next(t, s, "-a", "b=x", "d=x")
	look(t, s, api.State{Now: 10, Floor: 9, Pins: 1, Versions: 6})
	stands(t, s, "b", "x", "c", "3", "d", "x")
	// the versions have the number of the state, so that they are not what has changed behind it
	start(t, s, delta(9, 10), 2)
	copies(t, s, 2, 0, delta(9, 10, "-a", "b=x", "d=x"))
	start(t, s, full(9), 3)
	copies(t, s, 3, 0, full(9, "a=1", "b=", "c=3"))
	unpin(t, s, 9, api.OK)
	sweep(t, s, 3)
	look(t, s, api.State{Now: 10, Floor: 10, Versions: 3})
	// nothing forbids that something stands at the state 0
	s = restored(t, full(0, "a=1"))
	look(t, s, api.State{Versions: 1})
	stands(t, s, "a", "1")
	next(t, s, "a=2")
	start(t, s, delta(0, 1), 1)
	copies(t, s, 1, 0, delta(0, 1, "a=2"))
	sweep(t, s, 1)
}

// A work that was begun at the restored state clashes with what comes behind it, not with what it was made of.
func TestP9RestoreAndClashes(t *testing.T) {
	s := restored(t, full(7, "a=1", "b=1"))
	begin(t, s, 1)
	begin(t, s, 2)
	put(t, s, 1, "a", "2", api.OK)
	del(t, s, 1, "b", api.OK)
	commit(t, s, 1, 8, api.OK)
	put(t, s, 2, "b", "2", api.OK)
	commit(t, s, 2, 0, api.ErrClash)
	stands(t, s, "a", "2")
}

// wrongs are texts of no stream.
func wrongs(t *testing.T) []string {
	f, d := encode(t, full(3, "a=1")), encode(t, delta(3, 5, "a=1"))
	return []string{
		"", "x", "ANNF", "\x00\x00\x00\x00", f[:len(f)-1], f + "\x00", d[1:], sealed(f), "x" + d,
		sealed("ANNF\x00\x03\x00\x01"), sealed("ANND\x03\x05\x00\x01"), sealed("ANND\x03\x03\x00\x00"), sealed("ANNF\x03\x03\x00\x00"),
		sealed("ANNF\x00\x03" + sealed("\x01\x00\x01a\x00") + "\x00\x01"), strings.Repeat("x", 1<<20),
	}
}

func TestP9NoRestore(t *testing.T) {
	for _, text := range append(wrongs(t), encode(t, delta(0, 1)), encode(t, delta(3, 5, "a=1"))) {
		noRestore(t, text)
	}
}

func TestP9Apply(t *testing.T) {
	s := restored(t, full(7, "a=1", "b=1", "c=1"))
	apply(t, s, encode(t, delta(7, 10, "-a", "b=2", "d=", "-never")), api.OK)
	look(t, s, api.State{Now: 10, Floor: 7, Versions: 7})
	stands(t, s, "b", "2", "c", "1", "d", "")
	apply(t, s, encode(t, delta(10, 11)), api.OK) // nothing has changed, but it is another state
	look(t, s, api.State{Now: 11, Floor: 7, Versions: 7})
	// states in between are as the one ahead of them
	for _, state := range []int{8, 9, 11} {
		pin(t, s, state, api.OK)
		unpin(t, s, state, api.OK)
	}
	start(t, s, full(9), 1)
	start(t, s, full(10), 2)
	start(t, s, delta(9, 10), 3)
	start(t, s, delta(7, 9), 4)
	copies(t, s, 1, 0, full(9, "a=1", "b=1", "c=1"))
	copies(t, s, 2, 0, full(10, "b=2", "c=1", "d="))
	copies(t, s, 3, 0, delta(9, 10, "-a", "b=2", "d=", "-never"))
	copies(t, s, 4, 0, delta(7, 9))
	sweep(t, s, 4) // a of 7 and 10, b of 7, never of 10
	look(t, s, api.State{Now: 11, Floor: 11, Versions: 3})
	next(t, s, "a=12")
	stands(t, s, "a", "12", "b", "2", "c", "1", "d", "")
	apply(t, s, encode(t, delta(12, api.MaxState, "z=1")), api.OK)
	look(t, s, api.State{Now: api.MaxState, Floor: 11, Versions: 5})
	stands(t, s, "a", "12", "b", "2", "c", "1", "d", "", "z", "1")
	s = annals.New() // one that New has made can be brought on too
	apply(t, s, encode(t, delta(0, 2, "a=1")), api.OK)
	look(t, s, api.State{Now: 2, Versions: 1})
	start(t, s, full(1), 1)
	copies(t, s, 1, 0, full(1))
	stands(t, s, "a", "1")
}

func TestP9NoApply(t *testing.T) {
	s := restored(t, full(3, "a=1"))
	next(t, s, "b=1")
	pin(t, s, 3, api.OK)
	before := s.Look()
	chain := []string{encode(t, delta(3, 5, "a=2")), encode(t, delta(5, 6, "a=2")), encode(t, delta(0, 4, "a=2"))}
	good := encode(t, delta(4, 6, "a=2", "-b"))
	for _, busy := range []bool{false, true} {
		if busy {
			begin(t, s, 2)
			before.Open = 1
		}
		for _, text := range append(wrongs(t), encode(t, full(3, "a=1")), encode(t, full(4)), encode(t, full(0))) {
			apply(t, s, text, api.ErrForm)
		}
		for _, text := range chain {
			apply(t, s, text, api.ErrChain)
		}
		look(t, s, before)
	}
	apply(t, s, good, api.ErrBusy)
	put(t, s, 2, "a", "mine", api.OK)
	apply(t, s, good, api.ErrBusy)
	look(t, s, before)
	scan(t, s, 2, "", -1, "a", "mine", "b", "1")
	abort(t, s, 2, api.OK)
	stands(t, s, "a", "1", "b", "1")
	apply(t, s, good, api.OK) // pins and copyings are in nobody's way
	stands(t, s, "a", "2")
	look(t, s, api.State{Now: 6, Floor: 3, Pins: 1, Versions: 4})
}

// A copying goes on, though the store is brought on.
func TestP9ApplyMeanwhile(t *testing.T) {
	s := restored(t, full(3, "a=1", "b=1", "c=1", "d=1", "e=1"))
	x := full(3, "a=1", "b=1", "c=1", "d=1", "e=1")
	start(t, s, x, 1)
	for i, text := range pieces(t, x) {
		now := s.Look().Now
		apply(t, s, encode(t, delta(now, now+2, "-a", "aa=2", "-e", "f=2")), api.OK)
		s.Sweep()
		look(t, s, api.State{Now: now + 2, Floor: 3, Versions: 5 + 4*(i+1), Copies: 1})
		piece(t, s, 1, text, i == 3)
	}
	sweep(t, s, 5+16-5) // what is left: aa, b, c, d, f
	stands(t, s, "aa", "2", "b", "1", "c", "1", "d", "1", "f", "2")
}

func TestP9ManyRecords(t *testing.T) {
	all := many(2000)
	s := restored(t, api.Stream{Full: true, To: 1, Records: all[1000:]})
	look(t, s, api.State{Now: 1, Floor: 1, Versions: 1000})
	apply(t, s, encode(t, api.Stream{From: 1, To: 2, Records: all[:1000]}), api.OK)
	look(t, s, api.State{Now: 2, Floor: 1, Versions: 2000})
	if got := standing(t, s); len(got) != 4000 || got[0] != all[0].Key || got[3998] != all[1999].Key {
		t.Errorf("%d keys and values stand there", len(got))
	}
	noStart(t, s, true, 0, 2, api.ErrFull)
	start(t, s, delta(1, 2), 1)
	copies(t, s, 1, 0, api.Stream{From: 1, To: 2, Records: all[:1000]})
	var gone []api.Record
	for _, r := range all[500:1500] {
		gone = append(gone, api.Record{Key: r.Key, Gone: true})
	}
	apply(t, s, encode(t, api.Stream{From: 2, To: 3, Records: gone}), api.OK)
	start(t, s, full(3), 2)
	copies(t, s, 2, 0, api.Stream{Full: true, To: 3, Records: append(slices.Clone(all[:500]), all[1500:]...)})
	sweep(t, s, 2000)
	look(t, s, api.State{Now: 3, Floor: 3, Versions: 1000})
}

// P2: two stores of one text know nothing of each other, and none keeps the text.
func TestP2RestoredStoresAreApart(t *testing.T) {
	text := []byte(encode(t, full(3, "a=1", "b=1")))
	handed := unsafe.String(&text[0], len(text))
	one, err := annals.Restore(handed)
	two, err2 := annals.Restore(handed)
	if err != api.OK || err2 != api.OK {
		t.Fatalf("Restore = %d, %d", err, err2)
	}
	clear(text)
	more := []byte(encode(t, delta(3, 4, "-a", "c=2")))
	apply(t, one, unsafe.String(&more[0], len(more)), api.OK)
	clear(more)
	next(t, two, "b=2")
	stands(t, one, "b", "1", "c", "2")
	stands(t, two, "a", "1", "b", "2")
}

// P4: at the last state nothing more becomes; that is told ahead of a clash, and the work is not over.
func TestP4LastState(t *testing.T) {
	s := restored(t, full(api.MaxState-1))
	for n := 1; n <= 4; n++ {
		begin(t, s, n)
	}
	put(t, s, 1, "a", "1", api.OK)
	put(t, s, 2, "a", "2", api.OK)
	del(t, s, 3, "b", api.OK)
	commit(t, s, 1, api.MaxState, api.OK)
	for range 2 {
		commit(t, s, 2, 0, api.ErrFull)
		commit(t, s, 3, 0, api.ErrFull)
	}
	get(t, s, 2, "a", "2")
	commit(t, s, 4, api.MaxState-1, api.OK)
	begin(t, s, 5)
	scan(t, s, 5, "", -1, "a", "1")
	commit(t, s, 5, api.MaxState, api.OK)
	abort(t, s, 2, api.OK)
	abort(t, s, 3, api.OK)
	start(t, s, full(api.MaxState), 1)
	copies(t, s, 1, 0, full(api.MaxState, "a=1"))
	start(t, s, delta(api.MaxState-1, api.MaxState), 2)
	copies(t, s, 2, 0, delta(api.MaxState-1, api.MaxState, "a=1"))
	sweep(t, s, 0)
	look(t, s, api.State{Now: api.MaxState, Floor: api.MaxState, Versions: 1})
}

// copied takes all pieces of a copying, while the store lives on.
func copied(t *testing.T, r *rand.Rand, s *annals.Store, x api.Stream) string {
	t.Helper()
	n, err := s.Start(x.Full, x.From, x.To)
	if err != api.OK {
		t.Fatalf("Start(%v, %d, %d) = %d", x.Full, x.From, x.To, err)
	}
	text := ""
	for range 20 { // more than there are pieces
		more, over, err := s.Next(n)
		if err != api.OK {
			t.Fatalf("Next(%d) = %d", n, err)
		}
		text += more
		if over {
			return text
		}
		if r.Intn(3) == 0 {
			next(t, s, chanceWrites(r)...)
			s.Sweep()
		}
	}
	t.Fatalf("the copying of %d to %d does not end", x.From, x.To)
	return ""
}

func chanceWrites(r *rand.Rand) []string {
	var list []string
	for range 1 + r.Intn(5) {
		key := "k" + strconv.Itoa(r.Intn(15))
		if r.Intn(2) == 0 {
			list = append(list, "-"+key)
		} else {
			list = append(list, key+"="+strconv.Itoa(r.Intn(1000)))
		}
	}
	return list
}

// P10: a full stream and deltas behind it carry the state at which the last one ends, applied or merged.
func TestP10Carried(t *testing.T) {
	r := rand.New(rand.NewSource(10))
	for range 300 {
		s := annals.New()
		var marks []int
		var wants [][]string
		for range 1 + r.Intn(5) {
			for range 1 + r.Intn(5) {
				next(t, s, chanceWrites(r)...)
			}
			marks, wants = append(marks, s.Look().Now), append(wants, standing(t, s))
			pin(t, s, s.Look().Now, api.OK)
		}
		texts := []string{copied(t, r, s, api.Stream{Full: true, To: marks[0]})}
		for i, to := range marks[1:] {
			texts = append(texts, copied(t, r, s, api.Stream{From: marks[i], To: to}))
		}
		carried(t, r, texts, marks, wants)
	}
}

// carried wants texts to bring what stood at some states, each by itself and merged in any way ahead.
func carried(t *testing.T, r *rand.Rand, texts []string, marks []int, wants [][]string) {
	t.Helper()
	s, err := annals.Restore(texts[0])
	if err != api.OK {
		t.Fatalf("Restore = %d", err)
	}
	for i, want := range wants {
		if i > 0 {
			apply(t, s, texts[i], api.OK)
		}
		stands(t, s, want...)
		if now := s.Look().Now; now != marks[i] {
			t.Errorf("NOW is %d, want %d", now, marks[i])
		}
	}
	at := 1 + r.Intn(len(texts)) // the full one and some, then the others, merged
	ahead, err := annals.Merge(texts[:at])
	if err != api.OK {
		t.Fatalf("Merge = %d", err)
	}
	s, err = annals.Restore(ahead)
	if err != api.OK {
		t.Fatalf("Restore = %d", err)
	}
	stands(t, s, wants[at-1]...)
	if at < len(texts) {
		behind, err := annals.Merge(texts[at:])
		if err != api.OK {
			t.Fatalf("Merge = %d", err)
		}
		apply(t, s, behind, api.OK)
	}
	stands(t, s, wants[len(wants)-1]...)
}
