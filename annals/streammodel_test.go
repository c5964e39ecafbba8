package annals_test

// P6 and P7 by chance, held against another way to say them: texts are written and read by encoding/binary.

import (
	"encoding/binary"
	"hash/crc32"
	"maps"
	"math/rand"
	"slices"
	"strings"
	"testing"

	"annals/annals"
	"annals/api"
)

// modelText tells the text of a stream, and whether it is one.
func modelText(x api.Stream) (string, bool) {
	good := x.From >= 0 && x.To >= 0 && x.From <= 1000000000 && x.To <= 1000000000 && len(x.Records) <= 1000
	good = good && (x.Full && x.From == 0 || !x.Full && x.From < x.To)
	out := []byte("ANND")
	if x.Full {
		out = []byte("ANNF")
	}
	out = binary.AppendUvarint(binary.AppendUvarint(out, uint64(x.From)), uint64(x.To))
	begin := 0
	for i, r := range x.Records {
		good = good && len(r.Key) > 0 && len(r.Key) <= 10 && len(r.Value) <= 40
		good = good && !(x.Full && r.Gone) && !(r.Gone && len(r.Value) > 0)
		good = good && (i == 0 || x.Records[i-1].Key < r.Key)
		common := 0
		if i%4 == 0 {
			begin = len(out)
			out = append(out, byte(min(4, len(x.Records)-i)))
		} else {
			for !strings.HasPrefix(x.Records[i-1].Key, r.Key[:len(r.Key)-common]) {
				common++
			}
			common = len(r.Key) - common
		}
		out = append(out, byte(common), byte(len(r.Key)-common))
		out = append(out, r.Key[common:]...)
		if r.Gone {
			out = append(out, 0)
		} else {
			out = append(append(out, byte(len(r.Value)+1)), r.Value...)
		}
		if i%4 == 3 || i == len(x.Records)-1 {
			out = binary.BigEndian.AppendUint32(out, crc32.ChecksumIEEE(out[begin:]))
		}
	}
	out = binary.AppendUvarint(append(out, 0), uint64(len(x.Records)))
	return string(binary.BigEndian.AppendUint32(out, crc32.ChecksumIEEE(out))), good
}

// modelRead reads a text; where it breaks off, stuck is the place.
type modelRead struct {
	text  []byte
	at    int
	stuck int
}

func (m *modelRead) stop(at int) { m.stuck = at; panic(m) }

func (m *modelRead) number(least, most int) int {
	n, size := binary.Uvarint(m.text[m.at:])
	if size <= 0 || size > 5 || size > 1 && m.text[m.at+size-1] == 0 || n < uint64(least) || n > uint64(most) {
		m.stop(m.at)
	}
	m.at += size
	return int(n)
}

func (m *modelRead) bytes(n int) string {
	if m.at+n > len(m.text) {
		m.stop(m.at)
	}
	m.at += n
	return string(m.text[m.at-n : m.at])
}

func (m *modelRead) all() (x api.Stream) {
	letters := ""
	if letters = m.bytes(4); letters != "ANNF" && letters != "ANND" {
		m.stop(0)
	}
	x.Full = letters == "ANNF"
	x.From, x.To = m.number(0, 1<<40), m.number(0, 1<<40)
	for {
		begin := m.at
		n := m.number(0, 4)
		if n == 0 {
			break
		}
		for i := range n {
			var r api.Record
			if i > 0 {
				r.Key = x.Records[len(x.Records)-1].Key
			}
			r.Key = r.Key[:m.number(0, len(r.Key))]
			least := 0
			if r.Key == "" {
				least = 1
			}
			r.Key += m.bytes(m.number(least, 10-len(r.Key)))
			if size := m.number(0, 41); size == 0 {
				r.Gone = true
			} else {
				r.Value = m.bytes(size - 1)
			}
			x.Records = append(x.Records, r)
		}
		end := m.at
		if m.bytes(4) != sealed(string(m.text[begin:end]))[end-begin:] {
			m.stop(end)
		}
	}
	m.number(len(x.Records), len(x.Records))
	if m.at < len(m.text) {
		m.stop(m.at)
	}
	return x
}

// modelDecode says what Decode must answer.
func modelDecode(text string) (x api.Stream, place int, err api.Errno) {
	end := len(text) - 4
	if end < 0 || sealed(text[:end]) != text {
		return x, 0, api.ErrSum
	}
	m := &modelRead{text: []byte(text[:end])}
	defer func() {
		if broke := recover(); broke == any(m) {
			x, place, err = api.Stream{}, m.stuck, api.ErrForm
		} else if broke != nil {
			panic(broke)
		}
	}()
	x = m.all()
	if again, good := modelText(x); !good || again != text {
		return api.Stream{}, 0, api.ErrForm
	}
	return x, 0, api.OK
}

// chanceStream makes a stream, mostly.
func chanceStream(r *rand.Rand) api.Stream {
	x := api.Stream{Full: r.Intn(2) == 0, To: 1 + r.Intn(300)}
	if !x.Full {
		x.From = r.Intn(x.To)
	}
	keys := map[string]int{}
	for range r.Intn(14) {
		keys[strings.Repeat("a", r.Intn(9))+string([]byte{byte('a' + r.Intn(3))})]++
	}
	for _, key := range slices.Sorted(maps.Keys(keys)) {
		record := api.Record{Key: key, Value: strings.Repeat("v", r.Intn(41)), Gone: !x.Full && r.Intn(3) == 0}
		if record.Gone {
			record.Value = ""
		}
		x.Records = append(x.Records, record)
	}
	return x
}

// spoil makes something wrong with a stream.
func spoil(r *rand.Rand, x api.Stream) api.Stream {
	x.Records = slices.Clone(x.Records)
	if len(x.Records) == 0 || r.Intn(4) == 0 {
		wrong := []int{-1, 0, 1, x.From, x.To, 1000000000, 1000000001}
		if r.Intn(2) == 0 {
			x.From = wrong[r.Intn(len(wrong))]
		} else {
			x.To = wrong[r.Intn(len(wrong))]
		}
		return x
	}
	i, j := r.Intn(len(x.Records)), r.Intn(len(x.Records))
	switch r.Intn(6) {
	case 0:
		x.Records[i].Gone = true
	case 1:
		x.Records[i].Value += strings.Repeat("w", r.Intn(20))
	case 2:
		x.Records[i].Key += strings.Repeat("b", r.Intn(4))
	case 3:
		x.Records[i].Key = x.Records[j].Key
	case 4:
		x.Records[i], x.Records[j] = x.Records[j], x.Records[i]
	case 5:
		x.Full = !x.Full
	}
	return x
}

func TestP6EncodeByChance(t *testing.T) {
	r := rand.New(rand.NewSource(6))
	goods := 0
	for range 20000 {
		x := chanceStream(r)
		if r.Intn(2) == 0 {
			x = spoil(r, x)
		}
		want, good := modelText(x)
		err := api.OK
		if good {
			goods++
		} else {
			want, err = "", api.ErrForm
		}
		if text, got := annals.Encode(x); text != want || got != err {
			t.Fatalf("Encode(%+v) = %q, %d, want %q, %d", x, text, got, want, err)
		}
	}
	if goods < 5000 || goods > 18000 {
		t.Errorf("%d streams: the chances are bad", goods)
	}
}

// chance makes texts in which one of so many things (odd) is wrong.
type chance struct {
	*rand.Rand
	odd int
}

func (c chance) wrong() bool { return c.Intn(c.odd) == 0 }

func (c chance) number(n int) string {
	if !c.wrong() {
		return string(binary.AppendUvarint(nil, uint64(n)))
	}
	others := []int{0, 1, n + 1, max(n-1, 0), 4, 5, 10, 11, 41, 42, 127, 128, 1000000000, 1000000001, 1<<35 - 1, 1 << 35}
	text := binary.AppendUvarint(nil, uint64(others[c.Intn(len(others))]))
	for c.Intn(4) == 0 { // longer than it must be
		text[len(text)-1] |= 128
		text = append(text, 0)
	}
	return string(text)
}

func (c chance) sealed(text string) string {
	if !c.wrong() {
		return sealed(text)
	}
	return text + "abcd"[:c.Intn(5)]
}

func (c chance) letters(full bool) string {
	if c.wrong() {
		return []string{"ANNF", "ANND", "ANNE", "ANN", "ann"}[c.Intn(5)]
	}
	if full {
		return "ANNF"
	}
	return "ANND"
}

func (c chance) block(records []api.Record) string {
	text, ahead := c.number(len(records)), ""
	for _, r := range records {
		common := 0
		for common < len(ahead) && common < len(r.Key) && ahead[common] == r.Key[common] {
			common++
		}
		if c.wrong() {
			common = c.Intn(common + 1)
		}
		text += c.number(common) + c.number(len(r.Key)-common) + r.Key[common:]
		if r.Gone {
			text += c.number(0)
		} else {
			text += c.number(len(r.Value)+1) + r.Value
		}
		ahead = r.Key
	}
	return c.sealed(text)
}

func (c chance) text(x api.Stream) string {
	text := c.letters(x.Full) + c.number(x.From) + c.number(x.To)
	for rest := x.Records; len(rest) > 0; {
		n := min(4, len(rest))
		if c.wrong() {
			n = 1 + c.Intn(n)
		}
		text += c.block(rest[:n])
		rest = rest[n:]
	}
	text += c.number(0) + c.number(len(x.Records))
	if c.wrong() {
		text += "\x00"
	}
	if c.wrong() {
		text = text[:c.Intn(len(text)+1)]
	}
	return c.sealed(text)
}

func TestP6DecodeByChance(t *testing.T) {
	r := rand.New(rand.NewSource(7))
	places, noPlaces, sums, streams := 0, 0, 0, 0
	for range 60000 {
		x := chanceStream(r)
		if r.Intn(4) == 0 {
			x = spoil(r, x)
		}
		text := chance{r, 10 + r.Intn(200)}.text(x)
		want, place, err := modelDecode(text)
		x, at, got := annals.Decode(text)
		if !sameStream(x, want) || at != place || got != err {
			t.Fatalf("Decode(%q) = %+v, %d, %d, want %+v, %d, %d", text, x, at, got, want, place, err)
		}
		switch {
		case err == api.OK:
			streams++
		case err == api.ErrSum:
			sums++
		case place > 0:
			places++
		default:
			noPlaces++
		}
	}
	if min(places, noPlaces, sums, streams) < 500 {
		t.Errorf("%d places, %d without, %d sums, %d streams: the chances are bad", places, noPlaces, sums, streams)
	}
}

// chanceChain makes streams that follow each other, mostly; what they come to is told by a map.
func chanceChain(r *rand.Rand) ([]api.Stream, map[string]api.Record) {
	last := map[string]api.Record{}
	var list []api.Stream
	for range 1 + r.Intn(5) {
		x := chanceStream(r)
		if len(list) > 0 && r.Intn(40) > 0 {
			to := list[len(list)-1].To
			x.Full, x.From, x.To = false, to, to+1+r.Intn(9)
		}
		for _, record := range x.Records {
			last[record.Key] = record
		}
		list = append(list, x)
	}
	if list[0].Full {
		maps.DeleteFunc(last, func(_ string, record api.Record) bool { return record.Gone })
	}
	return list, last
}

func TestP7ByChance(t *testing.T) {
	r := rand.New(rand.NewSource(8))
	for range 5000 {
		list, last := chanceChain(r)
		err := api.OK
		var texts []string
		for i, x := range list {
			texts = append(texts, encode(t, x))
			if i > 0 && (x.Full || x.From != list[i-1].To) {
				err = api.ErrChain
			}
		}
		want := api.Stream{Full: list[0].Full, From: list[0].From, To: list[len(list)-1].To}
		for _, key := range slices.Sorted(maps.Keys(last)) {
			want.Records = append(want.Records, last[key])
		}
		if err == api.OK {
			merge(t, want, texts...)
		} else {
			apart(t, err, texts...)
		}
		if r.Intn(10) == 0 {
			texts[r.Intn(len(texts))] += "x"
			apart(t, api.ErrForm, texts...)
		}
	}
}
