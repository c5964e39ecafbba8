package annals_test

// P6: the texts of streams (example 3 too).

import (
	"hash/crc32"
	"math"
	"slices"
	"strings"
	"testing"

	"annals/annals"
	"annals/api"
)

// sealed gives bytes and their check.
func sealed(text string) string {
	c := crc32.ChecksumIEEE([]byte(text))
	return text + string([]byte{byte(c >> 24), byte(c >> 16), byte(c >> 8), byte(c)})
}

// records makes a list: "a=x" is one with a value, "-a" one that is gone.
func records(texts ...string) []api.Record {
	var list []api.Record
	for _, text := range texts {
		if key, gone := strings.CutPrefix(text, "-"); gone {
			list = append(list, api.Record{Key: key, Gone: true})
		} else {
			key, value, _ := strings.Cut(text, "=")
			list = append(list, api.Record{Key: key, Value: value})
		}
	}
	return list
}

func full(to int, texts ...string) api.Stream {
	return api.Stream{Full: true, To: to, Records: records(texts...)}
}

func delta(from, to int, texts ...string) api.Stream {
	return api.Stream{From: from, To: to, Records: records(texts...)}
}

// many makes so many records, each with a key of its own, in rising order.
func many(n int) []api.Record {
	list := make([]api.Record, n)
	for i := range list {
		list[i].Key = string([]byte{byte('a' + i/676), byte('a' + i/26%26), byte('a' + i%26)})
	}
	return list
}

func sameStream(a, b api.Stream) bool {
	return a.Full == b.Full && a.From == b.From && a.To == b.To && slices.Equal(a.Records, b.Records)
}

func isZero(x api.Stream) bool {
	return sameStream(x, api.Stream{})
}

func encode(t *testing.T, x api.Stream) string {
	t.Helper()
	text, err := annals.Encode(x)
	if err != api.OK {
		t.Fatalf("Encode(%+v) = %d", x, err)
	}
	return text
}

// decodes wants a text to be that of a stream.
func decodes(t *testing.T, text string, want api.Stream) {
	t.Helper()
	if x, at, err := annals.Decode(text); !sameStream(x, want) || at != 0 || err != api.OK {
		t.Errorf("Decode(%.300q) = %+v, %d, %d, want %+v", text, x, at, err, want)
	}
}

// refused wants a text to be none.
func refused(t *testing.T, text string, place int, want api.Errno) {
	t.Helper()
	if x, at, err := annals.Decode(text); !isZero(x) || at != place || err != want {
		t.Errorf("Decode(%.300q) = %+v, %d, %d, want %d, %d", text, x, at, err, place, want)
	}
}

func TestExample3(t *testing.T) {
	text := "ANNF\x00\x01" + "\x01\x00\x01a\x02x" + "\xe7\xdf\x2f\xf8" + "\x00\x01" + "\x83\x75\xa7\x56"
	if got := encode(t, full(1, "a=x")); got != text {
		t.Errorf("Encode = %q, want %q", got, text)
	}
	decodes(t, text, full(1, "a=x"))
}

func TestP6Texts(t *testing.T) {
	long := strings.Repeat("v", api.MaxValue)
	for _, c := range []struct {
		x    api.Stream
		text string // not sealed
	}{
		{full(0), "ANNF\x00\x00\x00\x00"},
		{full(0, "a"), "ANNF\x00\x00" + sealed("\x01\x00\x01a\x01") + "\x00\x01"}, // nothing says that it must have none
		{full(api.MaxState), "ANNF\x00\x80\x94\xeb\xdc\x03\x00\x00"},
		{delta(0, 1), "ANND\x00\x01\x00\x00"},
		{delta(127, 128), "ANND\x7f\x80\x01\x00\x00"},
		{delta(16383, 16384), "ANND\xff\x7f\x80\x80\x01\x00\x00"},
		{delta(api.MaxState-1, api.MaxState), "ANND\xff\x93\xeb\xdc\x03\x80\x94\xeb\xdc\x03\x00\x00"},
		{delta(1, 2, "-a"), "ANND\x01\x02" + sealed("\x01\x00\x01a\x00") + "\x00\x01"},
		{delta(1, 2, "a", "-ab", "ac="+long), "ANND\x01\x02" + sealed("\x03\x00\x01a\x01"+"\x01\x01b\x00"+"\x01\x01c\x29"+long) + "\x00\x03"},
		// a whole key in common, and none; a key of 1 byte and of 10
		{full(2, "a", "ab", "abcdefghij", "b"), "ANNF\x00\x02" + sealed("\x04\x00\x01a\x01"+"\x01\x01b\x01"+"\x02\x08cdefghij\x01"+"\x00\x01b\x01") + "\x00\x04"},
		// a block's first has nothing in common with one of the block ahead
		{full(2, "aa", "ab", "ac", "ad", "ae"), "ANNF\x00\x02" + sealed("\x04\x00\x02aa\x01"+"\x01\x01b\x01"+"\x01\x01c\x01"+"\x01\x01d\x01") + sealed("\x01\x00\x02ae\x01") + "\x00\x05"},
		// keys are ordered by their bytes, and are any bytes
		{full(2, "\x00", "\x00\x00", "\x7f", "\x80"), "ANNF\x00\x02" + sealed("\x04\x00\x01\x00\x01"+"\x01\x01\x00\x01"+"\x00\x01\x7f\x01"+"\x00\x01\x80\x01") + "\x00\x04"},
	} {
		text := sealed(c.text)
		if got := encode(t, c.x); got != text {
			t.Errorf("Encode(%+v) = %q, want %q", c.x, got, text)
		}
		decodes(t, text, c.x)
	}
}

func TestP6ManyRecords(t *testing.T) {
	for _, n := range []int{3, 4, 5, 127, 128, 999, 1000} {
		x := api.Stream{Full: true, To: 7, Records: many(n)}
		decodes(t, encode(t, x), x)
	}
	for _, n := range []int{1001, 1004, 5000} {
		for _, full := range []bool{true, false} {
			noStream(t, api.Stream{Full: full, To: 7, Records: many(n)})
		}
	}
}

// noStream wants Encode to refuse.
func noStream(t *testing.T, x api.Stream) {
	t.Helper()
	if text, err := annals.Encode(x); text != "" || err != api.ErrForm {
		t.Errorf("Encode(%.200v) = %q, %d", x, text, err)
	}
}

func TestP6NoStreams(t *testing.T) {
	long := strings.Repeat("v", api.MaxValue+1)
	for _, n := range []int{-1, api.MaxState + 1, 1 << 31, 1 << 32, 1 << 35, math.MaxInt, math.MinInt} {
		noStream(t, full(n))
		noStream(t, delta(n, 2))
		noStream(t, delta(1, n))
		noStream(t, delta(n, n))
		noStream(t, api.Stream{Full: true, From: n, To: 2})
	}
	for _, from := range []int{1, 2, 3, api.MaxState} {
		noStream(t, api.Stream{Full: true, From: from, To: 2})
		noStream(t, delta(from, from))
		noStream(t, delta(from, from-1))
	}
	noStream(t, api.Stream{})
	for _, list := range [][]string{
		{"=x"}, {"elevenbytes"}, {"a", "elevenbytes"}, {"a=" + long}, {"a", "b", "c", "d", "e=" + long},
		{"a", "a"}, {"b", "a"}, {"ab", "a"}, {"\x80", "\x7f"}, {"a", "b", "c", "d", "d"}, {"a", "b", "c", "d", "c"}, {"a", "c", "b", "d"},
	} {
		noStream(t, full(2, list...))
		noStream(t, delta(1, 2, list...))
	}
	noStream(t, full(1, "-a"))
	noStream(t, full(1, "a", "b", "c", "d", "-e"))
	noStream(t, delta(1, 2, "-"))
	noStream(t, delta(1, 2, "-a", "-a"))
	for _, full := range []bool{true, false} {
		noStream(t, api.Stream{Full: full, To: 1, Records: []api.Record{{Key: "a", Value: "x", Gone: true}}})
	}
}

func TestP6OtherChecks(t *testing.T) {
	text := encode(t, delta(1, 300, "ab=x", "-ac", "b="))
	for i := range text {
		refused(t, text[:i], 0, api.ErrSum)
		for bit := range 8 {
			turned := []byte(text)
			turned[i] ^= 1 << bit
			refused(t, string(turned), 0, api.ErrSum)
		}
	}
	refused(t, text+"\x00", 0, api.ErrSum)
	refused(t, text+text, 0, api.ErrSum)
	refused(t, "\xff\xff\xff\xff", 0, api.ErrSum)
	refused(t, "\x00\x00\x00\x00", 0, api.ErrForm) // the check of nothing, and nothing
	end := len(text) - 4
	refused(t, text[:end]+string([]byte{text[end+3], text[end+2], text[end+1], text[end]}), 0, api.ErrSum)
}

// The places of TestP6Places are those of the text ahead of what is told here to be wrong.
func TestP6Places(t *testing.T) {
	head := "ANND\x01\x05"
	block := sealed("\x04\x00\x01a\x01" + "\x00\x01b\x01" + "\x00\x01c\x01" + "\x00\x01d\x00")
	for _, c := range []struct{ right, wrong string }{
		{"", ""}, {"", "A"}, {"", "ANN"}, {"", "ANNG\x01\x05\x00\x00"}, {"", "annd\x01\x05\x00\x00"}, {"", " ANND\x01\x05\x00\x00"},
		// From and To
		{"ANND", ""}, {"ANND", "\x81"}, {"ANND", "\x81\x00\x05\x00\x00"}, {"ANND", "\x80\x80\x80\x80\x80\x01\x05\x00\x00"}, {"ANND", "\x81\x80\x80\x80\x00\x05\x00\x00"},
		{"ANND\x01", ""}, {"ANND\x01", "\x80\x00\x00\x00"}, {"ANNF\x00", "\xff\xff\xff\xff\xff\x01"}, {"ANNF\x00", "\xff\xff\xff\xff"},
		// how many records
		{head, ""}, {head, "\x05"}, {head, "\x7f"}, {head, "\x80\x00"}, {head, "\x84"}, {head, "\x80\x01"}, {head, "\x81\x80\x80\x80\x10"}, {head + block, ""}, {head + block, "\x05"},
		// bytes in common
		{head + "\x01", ""}, {head + "\x01", "\x01\x01a\x01"}, {head + "\x01", "\x80\x00\x01a\x01"}, {head + block + "\x01", "\x01\x01a\x01"},
		{head + "\x02\x00\x02ab\x01", "\x03\x01c\x01"}, {head + "\x02\x00\x02ab\x01", "\xff\xff\xff\xff\x7f"}, {head + "\x03\x00\x02ab\x01\x01\x00\x01", "\x02\x01c\x01"},
		// more bytes
		{head + "\x01\x00", ""}, {head + "\x01\x00", "\x00\x01"}, {head + "\x01\x00", "\x0babcdefghijk\x01"}, {head + "\x01\x00", "\x80"}, {head + "\x01\x00", "\xff\xff\xff\xff\x7f"},
		{head + "\x02\x00\x02ab\x01\x00", "\x00\x01"}, {head + "\x02\x00\x02ab\x01\x02", "\x09cdefghijk\x01"}, {head + "\x02\x00\x0aabcdefghij\x01\x0a", "\x01k\x01"},
		// the bytes of a key
		{head + "\x01\x00\x01", ""}, {head + "\x01\x00\x02", "a"}, {head + "\x01\x00\x0a", "abcdefghi"}, {head + "\x02\x00\x01a\x01\x01\x09", "bcdefghi"},
		// how many bytes a value has, and these
		{head + "\x01\x00\x01a", ""}, {head + "\x01\x00\x01a", "\x2a" + strings.Repeat("v", 41)}, {head + "\x01\x00\x01a", "\x82\x00x"}, {head + "\x01\x00\x01a", "\x80"},
		{head + "\x01\x00\x01a\x02", ""}, {head + "\x01\x00\x01a\x03", "v"}, {head + "\x01\x00\x01a\x29", strings.Repeat("v", 39)},
		// a block's check
		{head + block[:len(block)-4], ""}, {head + block[:len(block)-4], block[len(block)-4 : len(block)-1]}, {head + block[:len(block)-4], "\x00\x00\x00\x00\x00\x04"}, {head + block + block[:len(block)-4], "abcd\x00\x08"}, {head + "\x01\x00\x01a\x00", ""},
		// the number of all records
		{head + "\x00", ""}, {head + "\x00", "\x01"}, {head + "\x00", "\x80\x00"}, {head + "\x00", "\x80"}, {head + block + "\x00", "\x00"}, {head + block + "\x00", "\x03"}, {head + block + "\x00", "\x05"}, {head + block + "\x00", "\x84\x00"}, {head + block + "\x00", "\x84\x80\x80\x80\x10"},
		// behind it
		{head + "\x00\x00", "\x00"}, {head + block + "\x00\x04", "x"}, {head + block + "\x00\x04", sealed("")}, {head + block + "\x00\x04", strings.Repeat("x", 1000)},
	} {
		refused(t, sealed(c.right+c.wrong), len(c.right), api.ErrForm)
	}
}

// All of these can be read, but none is what Encode writes.
func TestP6NotAsWritten(t *testing.T) {
	of := func(n string, blocks ...string) string {
		text := "ANND\x01\x05"
		for _, block := range blocks {
			text += sealed(block)
		}
		return text + "\x00" + n
	}
	block := "\x04\x00\x01a\x01" + "\x00\x01b\x01" + "\x00\x01c\x01" + "\x00\x01d\x01"
	for _, text := range []string{
		"ANND\x05\x05\x00\x00", "ANND\x05\x04\x00\x00", "ANND\x00\x00\x00\x00", "ANNF\x01\x05\x00\x00",
		"ANND\x01\x81\x94\xeb\xdc\x03\x00\x00", "ANNF\x00\x81\x94\xeb\xdc\x03\x00\x00", "ANNF\x00\xff\xff\xff\xff\x7f\x00\x00", "ANND\x01\x80\x80\x80\x80\x08\x00\x00", "ANND\x01\x85\x80\x80\x80\x10\x00\x00", "ANNF\x80\x80\x80\x80\x10\x05\x00\x00",
		of("\x02", "\x02\x00\x02ab\x01\x00\x02ac\x01"),            // less in common than there is
		of("\x02", "\x02\x00\x02ab\x01\x01\x02bc\x01"),            // too
		of("\x02", "\x02\x00\x02ab\x01\x02\x00\x01"),              // the same key
		of("\x02", "\x02\x00\x02ab\x01\x01\x00\x01"),              // a key that is less
		of("\x02", "\x02\x00\x01b\x01\x00\x01a\x01"),              // too
		of("\x05", block, "\x01\x00\x01d\x01"),                    // the same key, in the next block
		of("\x05", block, "\x01\x00\x01\x00\x01"),                 // one that is less, there
		of("\x02", "\x01\x00\x01a\x01", "\x01\x00\x01b\x01"),      // blocks that are not full
		of("\x05", "\x01\x00\x011\x01", block),                    // too
		"ANNF\x00\x05" + sealed("\x01\x00\x01a\x00") + "\x00\x01", // gone in a full one
	} {
		refused(t, sealed(text), 0, api.ErrForm)
	}
}

// A text that has too many records is read to its end, nonetheless: what is wrong there has a place.
func TestP6TooManyInAText(t *testing.T) {
	var text strings.Builder
	text.WriteString("ANNF\x00\x05")
	for block := range slices.Chunk(many(1004), 4) {
		body := "\x04"
		for _, r := range block {
			body += "\x00\x03" + r.Key + "\x01"
		}
		text.WriteString(sealed(body))
	}
	all := text.String()
	refused(t, sealed(all+"\x00\xec\x07"), 0, api.ErrForm)
	refused(t, sealed(all+"\x00\xe8\x07"), len(all)+1, api.ErrForm)
	refused(t, sealed(all+"\x00\xec\x07\x00"), len(all)+3, api.ErrForm)
	refused(t, sealed(all+"\x05"), len(all), api.ErrForm)
}

// P1 at long texts and lists.
func TestP6OfAnyLength(t *testing.T) {
	for _, b := range []byte{0, 1, 4, 5, 'A', 127, 128, 255} {
		for _, n := range []int{0, 1, 2, 3, 4, 5, 100, 1 << 20} {
			rest := strings.Repeat(string([]byte{b}), n)
			for _, head := range []string{"", "ANNF", "ANND\x00\x01", "ANND\x00\x01\x04"} {
				annals.Decode(head + rest)
				if x, _, err := annals.Decode(sealed(head + rest)); err != api.OK && !isZero(x) {
					t.Errorf("Decode of %q and %d times %d = %+v, %d", head, n, b, x, err)
				}
			}
		}
	}
	noStream(t, api.Stream{Full: true, Records: make([]api.Record, 1<<20)})
	noStream(t, full(1, strings.Repeat("k", 1<<24)))
	noStream(t, full(1, "k="+strings.Repeat("v", 1<<24)))
}

// P2: the list that Encode gets is not changed, spare room neither; what Decode gives is new.
func TestP2Streams(t *testing.T) {
	given := append(records("-a", "b=1", "c=2", "-d", "e=3"), api.Record{Key: "spare"})
	before := slices.Clone(given)
	x := api.Stream{From: 1, To: 2, Records: given[:5]}
	text := encode(t, x)
	if !slices.Equal(given, before) {
		t.Errorf("Encode has made %+v of its list", given)
	}
	first, _, _ := annals.Decode(text)
	spoil := func(list []api.Record) {
		list = list[:cap(list)]
		for i := range list {
			list[i] = api.Record{Key: "spoilt"}
		}
	}
	second, _, _ := annals.Decode(text)
	spoil(second.Records)
	decodes(t, text, x)
	if !sameStream(first, x) {
		t.Errorf("a stream that came out before is now %+v", first)
	}
	spoil(given)
	if !sameStream(first, delta(1, 2, "-a", "b=1", "c=2", "-d", "e=3")) {
		t.Errorf("the stream that was handed in is kept: %+v", first)
	}
}
