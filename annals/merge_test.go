package annals_test

// P7: streams put together.

import (
	"slices"
	"strings"
	"testing"

	"annals/annals"
	"annals/api"
)

// merge wants texts to be put together to that stream.
func merge(t *testing.T, want api.Stream, texts ...string) {
	t.Helper()
	if text, err := annals.Merge(texts); text != encode(t, want) || err != api.OK {
		x, _, _ := annals.Decode(text)
		t.Errorf("Merge(%.300q) = %+v, %d, want %+v", texts, x, err, want)
	}
}

// apart wants texts not to be put together, for that reason.
func apart(t *testing.T, want api.Errno, texts ...string) {
	t.Helper()
	if text, err := annals.Merge(texts); text != "" || err != want {
		t.Errorf("Merge(%.300q) = %q, %d, want the error %d", texts, text, err, want)
	}
}

func TestP7Merge(t *testing.T) {
	code := func(x api.Stream) string { return encode(t, x) }
	// one alone
	merge(t, full(0), code(full(0)))
	merge(t, full(3, "a=1"), code(full(3, "a=1")))
	merge(t, delta(2, 3, "-a", "b=1"), code(delta(2, 3, "-a", "b=1")))
	// a full one: what is gone leaves nothing, whether it stood or not; what comes again stands
	f := code(full(3, "a=1", "b=2", "d=4"))
	merge(t, full(5, "b=2", "c=3", "d=4"), f, code(delta(3, 5, "-a", "c=3")))
	merge(t, full(5, "a=1", "b=2", "d=4"), f, code(delta(3, 5, "-c", "-e")))
	merge(t, full(6, "a=9", "d="), f, code(delta(3, 5, "-a", "-b")), code(delta(5, 6, "a=9", "d=")))
	merge(t, full(7), f, code(delta(3, 5, "-a", "-b")), code(delta(5, 7, "-d")))
	merge(t, full(api.MaxState, "a=1", "b=2", "d=4"), f, code(delta(3, api.MaxState)))
	merge(t, full(1, "a"), code(full(0)), code(delta(0, 1, "a")))
	// a delta: what is gone is told on
	d := code(delta(3, 5, "-a", "b=1", "c=1"))
	merge(t, delta(3, 6, "a=x", "-b", "c=1"), d, code(delta(5, 6, "a=x", "-b")))
	merge(t, delta(3, 9, "-a", "b=1", "-c", "-z"), d, code(delta(5, 6, "-c", "-z")), code(delta(6, 9)))
	merge(t, delta(0, 3, "-a"), code(delta(0, 1)), code(delta(1, 2, "a=x")), code(delta(2, 3, "-a")))
	// the order is that of all keys, not that of the texts
	merge(t, delta(0, 3, "A", "a", "ab", "b", "\xff"), code(delta(0, 1, "ab", "b")), code(delta(1, 2, "a", "\xff")), code(delta(2, 3, "A")))
}

func TestP7NotChained(t *testing.T) {
	code := func(x api.Stream) string { return encode(t, x) }
	f, d := code(full(3, "a=1")), code(delta(3, 5, "b=1"))
	apart(t, api.ErrChain, f, f)
	apart(t, api.ErrChain, d, f)
	apart(t, api.ErrChain, d, d)
	apart(t, api.ErrChain, d, code(full(5)))
	apart(t, api.ErrChain, code(full(0)), code(full(0))) // its From is the To ahead of it
	apart(t, api.ErrChain, f, code(delta(2, 5)))
	apart(t, api.ErrChain, f, code(delta(4, 5)))
	apart(t, api.ErrChain, f, code(delta(0, 3)))
	apart(t, api.ErrChain, f, d, d)
	apart(t, api.ErrChain, f, d, f)
	apart(t, api.ErrChain, f, code(delta(4, 5)), code(delta(5, 6)))
	apart(t, api.ErrChain, f, code(delta(4, 5)), code(delta(3, 5))) // one behind it that would follow makes it no better
}

func TestP7NoStreams(t *testing.T) {
	code := func(x api.Stream) string { return encode(t, x) }
	f, d := code(full(3, "a=1")), code(delta(3, 5, "b=1"))
	apart(t, api.ErrForm)
	if text, err := annals.Merge([]string{}); text != "" || err != api.ErrForm {
		t.Errorf("Merge of an empty list = %q, %d", text, err)
	}
	for _, bad := range []string{"", "x", "\x00\x00\x00\x00", f[:len(f)-1], f + "\x00", sealed("ANND\x05\x05\x00\x00"), sealed("ANNF\x00\x05\x00\x01"), strings.Repeat("x", 1<<20)} {
		apart(t, api.ErrForm, bad)
		apart(t, api.ErrForm, bad, d)
		apart(t, api.ErrForm, f, bad)
		apart(t, api.ErrForm, f, d, bad)
		apart(t, api.ErrForm, f, f, bad) // named ahead of ErrChain, wherever it is
		apart(t, api.ErrForm, bad, f, f)
	}
}

func TestP7ManyRecords(t *testing.T) {
	all := many(1200)
	part := func(from, to int, list []api.Record) api.Stream {
		return api.Stream{From: from, To: to, Records: list}
	}
	one, two := encode(t, part(1, 2, all[:600])), encode(t, part(2, 3, all[600:]))
	apart(t, api.ErrForm, one, two)
	apart(t, api.ErrForm, encode(t, part(1, 2, all[:1000])), encode(t, part(2, 3, all[1000:1001])))
	merge(t, part(1, 3, all[:1000]), one, encode(t, part(2, 3, all[600:1000])))
	merge(t, part(1, 3, all[:1000]), one, encode(t, part(2, 3, all[400:1000])))
	apart(t, api.ErrChain, one, two, one) // named ahead of that ErrForm
	// of a full one what is gone does not count, even if there were too many in between
	gone := slices.Clone(all[:300])
	for i := range gone {
		gone[i].Gone = true
	}
	start := encode(t, api.Stream{Full: true, To: 2, Records: all[:600]})
	apart(t, api.ErrForm, start, two)
	rest := api.Stream{Full: true, To: 4, Records: all[300:]}
	merge(t, rest, start, two, encode(t, part(3, 4, gone)))
	// of a delta it does
	apart(t, api.ErrForm, one, two, encode(t, part(3, 4, gone)))
}

// P2: the list is not changed, and nothing of one call is there in another.
func TestP2Merge(t *testing.T) {
	texts := []string{encode(t, full(3, "a=1")), encode(t, delta(3, 5, "b=1")), "spare"}
	before := slices.Clone(texts)
	for range 3 {
		merge(t, full(5, "a=1", "b=1"), texts[:2]...)
		merge(t, delta(3, 5, "b=1"), texts[1])
		apart(t, api.ErrForm, texts...)
	}
	if !slices.Equal(texts, before) {
		t.Errorf("Merge has made %q of its list", texts)
	}
}
