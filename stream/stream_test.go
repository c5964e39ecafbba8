package stream

import (
	"errors"
	"hash/crc32"
	"math/rand"
	"slices"
	"strings"
	"testing"
	"unsafe"

	"annals/api"
)

func TestCheck(t *testing.T) {
	if got := checkOf("123456789"); got != "\xcb\xf4\x39\x26" {
		t.Errorf("the check of 123456789 = %x", got)
	}
	if got := checkOf(""); got != "\x00\x00\x00\x00" {
		t.Errorf("the check of nothing = %x", got)
	}
	r := rand.New(rand.NewSource(1))
	for n := range 600 {
		all := make([]byte, n)
		r.Read(all)
		at := r.Intn(n + 1)
		want := check(crc32.ChecksumIEEE(all))
		if got := check(0).over(string(all[:at])).over(string(all[at:])); got != want {
			t.Fatalf("the check of %x, from %d on anew = %x, want %x", all, at, got, want)
		}
	}
	for i := range 256 { // each byte alone
		if got, want := check(0).over(string([]byte{byte(i)})), check(crc32.ChecksumIEEE([]byte{byte(i)})); got != want {
			t.Errorf("the check of %d = %x, want %x", i, got, want)
		}
	}
}

func TestNumbers(t *testing.T) {
	for _, c := range []struct {
		n    int
		text string
	}{
		{0, "\x00"}, {1, "\x01"}, {127, "\x7f"}, {128, "\x80\x01"}, {255, "\xff\x01"}, {256, "\x80\x02"},
		{16383, "\xff\x7f"}, {16384, "\x80\x80\x01"}, {2097151, "\xff\xff\x7f"}, {2097152, "\x80\x80\x80\x01"},
		{268435455, "\xff\xff\xff\x7f"}, {268435456, "\x80\x80\x80\x80\x01"}, {1000000000, "\x80\x94\xeb\xdc\x03"},
	} {
		if got := number(c.n); got != c.text {
			t.Errorf("number(%d) = %x, want %x", c.n, got, c.text)
		}
		r := reader{text: "#" + c.text + "\x01", at: 1}
		if n, err := r.number(); n != int64(c.n) || r.at != 1+len(c.text) || err != nil {
			t.Errorf("%x is read as %d, up to %d, %v", c.text, n, r.at, err)
		}
	}
	r := reader{text: "\xff\xff\xff\xff\x7f"}
	if n, err := r.number(); n != 1<<35-1 || err != nil {
		t.Errorf("the greatest number is read as %d, %v", n, err)
	}
}

func TestNoNumbers(t *testing.T) {
	for _, c := range []struct {
		text  string
		wrong error
	}{
		{"", errCut}, {"\x80", errCut}, {"\xff\xff\xff\xff", errCut}, {"\x80\x80\x80\x80", errCut},
		{"\x80\x00", errNumber}, {"\x81\x00", errNumber}, {"\xff\xff\xff\xff\x00", errNumber},
		{"\x80\x80\x80\x80\x80", errNumber}, {"\x80\x80\x80\x80\x80\x01", errNumber}, {"\xff\xff\xff\xff\xff\x7f", errNumber},
	} {
		r := reader{text: "##" + c.text, at: 2}
		n, err := r.number()
		if n != 0 {
			t.Errorf("%x is read as %d", c.text, n)
		}
		blame(t, c.text, err, 2, c.wrong)
	}
}

// blame wants an error to be a Fault at a place that wraps what is wrong.
func blame(t *testing.T, text string, err error, place int, wrong error) {
	t.Helper()
	var fault *Fault
	if !errors.As(err, &fault) {
		t.Errorf("%.200q: the error %v is no Fault", text, err)
		return
	}
	if fault.Place != place || !errors.Is(err, wrong) {
		t.Errorf("%.200q: %v, want %v, at %d", text, err, wrong, place)
	}
}

func sealed(text string) string { return text + checkOf(text) }

func TestFaults(t *testing.T) {
	right := "ANND\x01\x05" + sealed("\x02\x00\x02ab\x02x\x01\x01c\x00") + "\x00\x02"
	if _, err := Read(sealed(right)); err != nil {
		t.Fatalf("Read = %v", err)
	}
	for _, c := range []struct {
		text  string // not sealed
		place int
		wrong error
	}{
		{"ANN", 0, errCut}, {"ANNE\x01\x05\x00\x00", 0, errLetters}, {"ANND\x80\x00", 4, errNumber}, {"ANND\x01", 5, errCut},
		{"ANND\x01\x05\x05", 6, errBounds}, {"ANND\x01\x05\x00\x01", 7, errCount}, {right + "\x00", len(right), errBehind},
		{"ANND\x01\x05" + "\x01\x00\x01a\x00" + "abcd" + "\x00\x01", 11, errBlock},
		{"ANND\x05\x05\x00\x00", 0, errStates}, {"ANNF\x01\x05\x00\x00", 0, errStates},
		{"ANNF\x00\x05" + sealed("\x01\x00\x01a\x00") + "\x00\x01", 0, errGone},
		{"ANNF\x00\x05" + sealed("\x02\x00\x01a\x01\x01\x00\x01") + "\x00\x02", 0, errOrder},
		{"ANNF\x00\x05" + sealed("\x02\x00\x01a\x01\x00\x02ab\x01") + "\x00\x02", 0, errOther},
	} {
		_, err := Read(sealed(c.text))
		blame(t, c.text, err, c.place, c.wrong)
	}
	for _, text := range []string{"", "\x00", "\x00\x00\x00", "\x00\x00\x00\x01", right, sealed(right) + "x"} {
		_, err := Read(text)
		blame(t, text, err, 0, ErrSum)
	}
	if got := (&Fault{7, errCut}).Error(); got != "cut off, at 7" {
		t.Errorf("a Fault tells itself as %q", got)
	}
}

func TestPieces(t *testing.T) {
	var records []api.Record
	for _, key := range []string{"a", "ab", "b", "c", "cd", "e"} {
		records = append(records, api.Record{Key: key, Value: "v" + key})
	}
	var w Writer
	text := w.Head(false, 3, 300) + w.Block(records[:4]) + w.Block(records[4:]) + w.Tail()
	want, err := Write(api.Stream{From: 3, To: 300, Records: records})
	if text != want || err != nil {
		t.Errorf("the pieces are %q, want %q (%v)", text, want, err)
	}
}

// However many records a text has, no more are kept than tell that they are too many.
func TestFewAreKept(t *testing.T) {
	const blocks = 5000
	block := sealed("\x04" + strings.Repeat("\x00\x01a\x01", 4))
	r := reader{text: "ANNF\x00\x01" + strings.Repeat(block, blocks) + "\x00" + number(4*blocks)}
	x, err := r.stream()
	if len(x.Records) != api.MaxRecords+1 || err != nil {
		t.Errorf("%d records, %v", len(x.Records), err)
	}
}

// What is read shares no memory with the text.
func TestReadIsNew(t *testing.T) {
	text, _ := Write(api.Stream{To: 1, Records: []api.Record{{Key: "a", Value: "v"}, {Key: "ab", Value: "w"}, {Key: "b", Gone: true}}})
	x, err := Read(text)
	if err != nil {
		t.Fatal(err)
	}
	begin := uintptr(unsafe.Pointer(unsafe.StringData(text)))
	for _, r := range x.Records {
		for _, piece := range []string{r.Key, r.Value} {
			at := uintptr(unsafe.Pointer(unsafe.StringData(piece)))
			if piece != "" && at >= begin && at < begin+uintptr(len(text)) {
				t.Errorf("%q is a piece of the text", piece)
			}
		}
	}
}

func TestChain(t *testing.T) {
	put := func(key, value string) api.Record { return api.Record{Key: key, Value: value} }
	gone := func(key string) api.Record { return api.Record{Key: key, Gone: true} }
	first := api.Stream{Full: true, To: 3, Records: []api.Record{put("b", "1"), put("c", "1")}}
	second := api.Stream{From: 3, To: 5, Records: []api.Record{put("a", "2"), gone("b")}}
	for _, full := range []bool{true, false} {
		var c Chain
		first.Full = full
		if !c.Add(first) || c.Add(first) || c.Add(api.Stream{Full: true, From: 3, To: 9}) || c.Add(api.Stream{From: 2, To: 9}) || !c.Add(second) {
			t.Errorf("a chain takes what does not follow, or not what does")
		}
		want := []api.Record{put("a", "2"), gone("b"), put("c", "1")}
		if full {
			want = []api.Record{put("a", "2"), put("c", "1")}
		}
		if x := c.Stream(); x.Full != full || x.From != 0 || x.To != 5 || !slices.Equal(x.Records, want) {
			t.Errorf("a chain comes to %+v, want %+v", x, want)
		}
	}
}
