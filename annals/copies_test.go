package annals_test

// P8: copyings; P5: what they hold; P10: their pieces, whatever is done meanwhile.

import (
	"math"
	"slices"
	"strconv"
	"strings"
	"testing"

	"annals/annals"
	"annals/api"
)

// start starts a copying of a stream's states that must get that number.
func start(t *testing.T, s *annals.Store, x api.Stream, want int) {
	t.Helper()
	if n, err := s.Start(x.Full, x.From, x.To); n != want || err != api.OK {
		t.Errorf("Start(%v, %d, %d) = %d, %d, want %d", x.Full, x.From, x.To, n, err, want)
	}
}

func noStart(t *testing.T, s *annals.Store, full bool, from, to int, want api.Errno) {
	t.Helper()
	if n, err := s.Start(full, from, to); n != 0 || err != want {
		t.Errorf("Start(%v, %d, %d) = %d, %d, want the error %d", full, from, to, n, err, want)
	}
}

func stop(t *testing.T, s *annals.Store, copying int, want api.Errno) {
	t.Helper()
	if err := s.Stop(copying); err != want {
		t.Errorf("Stop(%d) = %d, want %d", copying, err, want)
	}
}

func piece(t *testing.T, s *annals.Store, copying int, want string, wantOver bool) {
	t.Helper()
	if text, over, err := s.Next(copying); text != want || over != wantOver || err != api.OK {
		t.Errorf("Next(%d) = %q, %v, %d, want %q, %v", copying, text, over, err, want, wantOver)
	}
}

func noPiece(t *testing.T, s *annals.Store, copying int) {
	t.Helper()
	if text, over, err := s.Next(copying); text != "" || over || err != api.ErrNone {
		t.Errorf("Next(%d) = %q, %v, %d, want ErrNone", copying, text, over, err)
	}
}

// pieces cuts the text of a stream: the text of fewer of its records begins likewise, but for what stands behind them.
func pieces(t *testing.T, x api.Stream) []string {
	t.Helper()
	text := encode(t, x)
	var list []string
	told := 0
	for n := 0; ; n = min(n+4, len(x.Records)) {
		part := encode(t, api.Stream{Full: x.Full, From: x.From, To: x.To, Records: x.Records[:n]})
		tail := 6
		if n > 127 {
			tail = 7
		}
		list = append(list, text[told:len(part)-tail])
		told = len(part) - tail
		if n == len(x.Records) {
			return append(list, text[told:])
		}
	}
}

// copies wants a copying that has told so many pieces to go on with those of a stream, to its end.
func copies(t *testing.T, s *annals.Store, copying, told int, x api.Stream) {
	t.Helper()
	all := pieces(t, x)
	for i := told; i < len(all); i++ {
		piece(t, s, copying, all[i], i == len(all)-1)
	}
	noPiece(t, s, copying)
	stop(t, s, copying, api.ErrNone)
}

// lived makes a store with some states.
func lived(t *testing.T) *annals.Store {
	t.Helper()
	s := annals.New()
	next(t, s, "a=1", "b=1", "c=1")
	next(t, s, "a=2", "-b", "-never")
	next(t, s, "b=3", "d=")
	next(t, s, "-c", "-d")
	next(t, s, "d=5", "e=5", "f=5", "g=5")
	return s
}

func TestP8Pieces(t *testing.T) {
	s := annals.New()
	next(t, s, "a=x")
	start(t, s, full(1), 1)
	piece(t, s, 1, "ANNF\x00\x01", false)
	piece(t, s, 1, "\x01\x00\x01a\x02x\xe7\xdf\x2f\xf8", false) // example 3
	piece(t, s, 1, "\x00\x01\x83\x75\xa7\x56", true)
	noPiece(t, s, 1)
	start(t, s, full(0), 2) // nothing stands there: no block
	piece(t, s, 2, "ANNF\x00\x00", false)
	piece(t, s, 2, sealed("ANNF\x00\x00\x00\x00")[6:], true)
	noPiece(t, s, 2)
	next(t, s, "-a", "b=1", "c=1", "d=1", "e=1")
	start(t, s, delta(1, 2), 3)
	first := sealed("\x04\x00\x01a\x00\x00\x01b\x021\x00\x01c\x021\x00\x01d\x021")
	second := sealed("\x01\x00\x01e\x021")
	piece(t, s, 3, "ANND\x01\x02", false)
	piece(t, s, 3, first, false)
	piece(t, s, 3, second, false)
	piece(t, s, 3, sealed("ANND\x01\x02" + first + second + "\x00\x05")[6+len(first)+len(second):], true)
	noPiece(t, s, 3)
}

func TestP8Streams(t *testing.T) {
	s := lived(t)
	for i, x := range []api.Stream{
		full(0), full(1, "a=1", "b=1", "c=1"), full(2, "a=2", "c=1"), full(3, "a=2", "b=3", "c=1", "d="),
		full(4, "a=2", "b=3"), full(5, "a=2", "b=3", "d=5", "e=5", "f=5", "g=5"),
		delta(0, 1, "a=1", "b=1", "c=1"), // not what a later state has put or deleted
		delta(1, 2, "a=2", "-b", "-never"), delta(2, 3, "b=3", "d="), delta(3, 4, "-c", "-d"),
		delta(1, 3, "a=2", "b=3", "d=", "-never"),
		delta(2, 4, "b=3", "-c", "-d"), // also what was put and deleted in between
		delta(4, 5, "d=5", "e=5", "f=5", "g=5"),
		delta(0, 5, "a=2", "b=3", "-c", "d=5", "e=5", "f=5", "g=5", "-never"),
	} {
		start(t, s, x, i+1)
		copies(t, s, i+1, 0, x)
	}
	look(t, s, api.State{Now: 5, Versions: 14})
}

// Blocks have 4 records, whole ones and the last; keys of any bytes follow each other.
func TestP8Blocks(t *testing.T) {
	keys := []string{"\x00", "\x00\x00", "a", "a\x00", "a\x00\x00", "abcdefghij", "abcdefghik", "b", "\x7f", "\x80", "\xff", "\xff\xff", "\xffz"}
	slices.Sort(keys)
	for n := range len(keys) + 1 {
		s := annals.New()
		x := full(1)
		for _, key := range keys[:n] {
			x.Records = append(x.Records, api.Record{Key: key, Value: "v" + key})
		}
		if n == 0 {
			next(t, s, "-never")
		} else {
			begin(t, s, 1)
			for _, r := range slices.Backward(x.Records) {
				put(t, s, 1, r.Key, r.Value, api.OK)
			}
			commit(t, s, 1, 1, api.OK)
		}
		start(t, s, x, 1)
		if all := pieces(t, x); len(all) != 2+(n+3)/4 {
			t.Fatalf("%d records: %d pieces", n, len(all))
		}
		copies(t, s, 1, 0, x)
	}
}

func TestP8NoStart(t *testing.T) {
	s := lived(t)
	pin(t, s, 2, api.OK)
	s.Sweep()
	before := s.Look()
	for _, state := range []int{math.MinInt, -1, 0, 1, 6, api.MaxState, api.MaxState + 1, math.MaxInt} {
		noStart(t, s, true, 0, state, api.ErrPast)
		noStart(t, s, true, 7, state, api.ErrPast) // named ahead of ErrForm
		noStart(t, s, false, state, 5, api.ErrPast)
		noStart(t, s, false, 2, state, api.ErrPast)
		noStart(t, s, false, state, state, api.ErrPast)
		if state != 0 {
			noStart(t, s, true, state, 5, api.ErrForm) // a full one is from no state
		}
	}
	for from := 2; from <= 5; from++ {
		noStart(t, s, true, from, 5, api.ErrForm)
		for to := 2; to <= from; to++ {
			noStart(t, s, false, from, to, api.ErrForm)
		}
	}
	look(t, s, before)
	start(t, s, full(2), 1) // the refused ones have used up no number
	start(t, s, delta(2, 5), 2)
}

func TestP8FourAtOnce(t *testing.T) {
	s := lived(t)
	for i := range api.MaxCopies {
		start(t, s, full(3), i+1)
	}
	look(t, s, api.State{Now: 5, Versions: 14, Copies: 4})
	for range 3 {
		noStart(t, s, true, 0, 3, api.ErrFull)
		noStart(t, s, false, 0, 3, api.ErrFull)
		noStart(t, s, true, 0, 6, api.ErrPast) // both are named ahead of it
		noStart(t, s, true, 1, 3, api.ErrForm)
	}
	stop(t, s, 2, api.OK)
	look(t, s, api.State{Now: 5, Versions: 14, Copies: 3})
	start(t, s, delta(1, 2), 5)
	noStart(t, s, true, 0, 3, api.ErrFull)
	// they go on each by itself, in whatever order
	x := full(3, "a=2", "b=3", "c=1", "d=")
	all := pieces(t, x)
	piece(t, s, 1, all[0], false)
	piece(t, s, 4, all[0], false)
	piece(t, s, 4, all[1], false)
	copies(t, s, 5, 0, delta(1, 2, "a=2", "-b", "-never"))
	copies(t, s, 1, 1, x)
	copies(t, s, 3, 0, x)
	start(t, s, x, 6) // what is over leaves room
	copies(t, s, 4, 2, x)
	copies(t, s, 6, 0, x)
	look(t, s, api.State{Now: 5, Versions: 14})
}

func TestP8NotOpen(t *testing.T) {
	s := lived(t)
	for _, n := range []int{math.MinInt, -1, 0, 1, 2, math.MaxInt} {
		noPiece(t, s, n)
		stop(t, s, n, api.ErrNone)
	}
	begin(t, s, 6)
	start(t, s, full(5), 1) // copyings have numbers of their own
	noPiece(t, s, 6)
	stop(t, s, 6, api.ErrNone)
	piece(t, s, 1, "ANNF\x00\x05", false)
	stop(t, s, 1, api.OK)
	stop(t, s, 1, api.ErrNone)
	noPiece(t, s, 1)
	commit(t, s, 6, 5, api.OK)
	start(t, s, full(4), 2)
	copies(t, s, 2, 0, full(4, "a=2", "b=3"))
}

// A copying's states are held until it is over: until its last piece is told, or it is stopped.
func TestP8HeldUntilOver(t *testing.T) {
	for _, c := range []struct {
		x     api.Stream
		least int
	}{
		{full(0), 0}, {full(2, "a=2", "c=1"), 2}, {full(3, "a=2", "b=3", "c=1", "d="), 3},
		{delta(0, 1, "a=1", "b=1", "c=1"), 0}, {delta(1, 4, "a=2", "b=3", "-c", "-d", "-never"), 1}, {delta(4, 5, "d=5", "e=5", "f=5", "g=5"), 4},
	} {
		s := lived(t)
		start(t, s, c.x, 1)
		all := pieces(t, c.x)
		for i, text := range all {
			s.Sweep()
			if got := s.Look(); got.Floor != c.least || got.Copies != 1 {
				t.Errorf("%+v: Look() = %+v, want the floor %d", c.x, got, c.least)
			}
			piece(t, s, 1, text, i == len(all)-1)
		}
		s.Sweep()
		look(t, s, api.State{Now: 5, Floor: 5, Versions: 6})
		s = lived(t)
		start(t, s, c.x, 1)
		stop(t, s, 1, api.OK)
		s.Sweep()
		look(t, s, api.State{Now: 5, Floor: 5, Versions: 6})
	}
}

// Of all that holds a state it is the least one that counts, copyings among it.
func TestP8LeastHeld(t *testing.T) {
	s := lived(t)
	start(t, s, full(4), 1)
	start(t, s, delta(3, 5), 2)
	pin(t, s, 2, api.OK)
	sweep(t, s, 4) // a of 1, b of 1 and 2, never of 2
	look(t, s, api.State{Now: 5, Floor: 2, Pins: 1, Versions: 10, Copies: 2})
	unpin(t, s, 2, api.OK)
	sweep(t, s, 0)
	look(t, s, api.State{Now: 5, Floor: 3, Versions: 10, Copies: 2})
	stop(t, s, 2, api.OK)
	sweep(t, s, 4) // c and d of what was ahead of 4, and their deletions
	look(t, s, api.State{Now: 5, Floor: 4, Versions: 6, Copies: 1})
	copies(t, s, 1, 0, full(4, "a=2", "b=3"))
	sweep(t, s, 0)
	look(t, s, api.State{Now: 5, Floor: 5, Versions: 6})
}

// More than 1000 records are not copied, wherever they are; 1000 are.
func TestP8ManyRecords(t *testing.T) {
	s := annals.New()
	begin(t, s, 1)
	all := many(1001)
	for i, r := range all {
		if i > 0 && i%api.MaxWrites == 0 {
			commit(t, s, s.Look().Now+1, s.Look().Now+1, api.OK)
			begin(t, s, s.Look().Now+1)
		}
		put(t, s, s.Look().Now+1, r.Key, r.Value, api.OK)
	}
	commit(t, s, 34, 34, api.OK)
	start(t, s, full(33), 1)
	noStart(t, s, true, 0, 34, api.ErrFull)
	noStart(t, s, false, 0, 34, api.ErrFull)
	next(t, s, "-"+all[500].Key)
	look(t, s, api.State{Now: 35, Versions: 1002, Copies: 1})
	// one is gone: it counts between states, not in one
	noStart(t, s, false, 0, 35, api.ErrFull)
	noStart(t, s, true, 0, 34, api.ErrFull)
	start(t, s, full(35), 2)
	start(t, s, delta(1, 35), 3)
	copies(t, s, 1, 0, api.Stream{Full: true, To: 33, Records: all[:990]})
	rest := slices.Delete(slices.Clone(all), 500, 501)
	copies(t, s, 2, 0, api.Stream{Full: true, To: 35, Records: rest})
	changed := slices.Clone(all[30:])
	changed[470].Gone = true
	copies(t, s, 3, 0, api.Stream{From: 1, To: 35, Records: changed})
}

// P10: whatever works do, and sweeps, and other copyings, the pieces are those of the states.
func TestP10Meanwhile(t *testing.T) {
	s := annals.New()
	var puts []string
	for i := range 20 {
		puts = append(puts, "k"+strconv.Itoa(10+i)+"=1")
	}
	next(t, s, puts...)
	next(t, s, "-k10", "-k15", "k20=2")
	x := full(1, puts...)
	y := delta(1, 2, "-k10", "-k15", "k20=2")
	start(t, s, x, 1)
	start(t, s, y, 2)
	all := pieces(t, x)
	for i, text := range all[:len(all)-1] {
		piece(t, s, 1, text, false)
		key := "k" + strconv.Itoa(10+4*i)
		next(t, s, "-"+key, "k=new", "k10x=new", "k29x=new", "-k29", "k"+strconv.Itoa(29-4*i)+"=new")
		s.Sweep()
	}
	piece(t, s, 1, all[len(all)-1], true)
	look(t, s, api.State{Now: 8, Floor: 1, Versions: s.Look().Versions, Copies: 1})
	copies(t, s, 2, 0, y)
	s.Sweep()
	if got := s.Look(); got.Floor != 8 || got.Copies != 0 {
		t.Errorf("Look() behind the copyings = %+v", got)
	}
}

// P2: copyings of one store are none of another's.
func TestP2CopyingsAreApart(t *testing.T) {
	one, two := lived(t), annals.New()
	start(t, one, full(1), 1)
	noPiece(t, two, 1)
	stop(t, two, 1, api.ErrNone)
	start(t, two, full(0), 1)
	piece(t, two, 1, "ANNF\x00\x00", false)
	copies(t, one, 1, 0, full(1, "a=1", "b=1", "c=1"))
	copies(t, two, 1, 1, full(0))
}

// P1: with all that is wrong nothing has changed: a copying goes on as if nobody had asked.
func TestP1RefusedStartsChangeNothing(t *testing.T) {
	s := lived(t)
	x := full(5, "a=2", "b=3", "d=5", "e=5", "f=5", "g=5")
	start(t, s, x, 1)
	for i, text := range pieces(t, x) {
		noStart(t, s, true, 1, 5, api.ErrForm)
		noStart(t, s, false, 0, 9, api.ErrPast)
		noPiece(t, s, 2)
		stop(t, s, 2, api.ErrNone)
		if err := s.Apply(strings.Repeat("x", 100)); err != api.ErrForm {
			t.Errorf("Apply = %d", err)
		}
		piece(t, s, 1, text, i == 3)
	}
	start(t, s, full(5), 2)
}
