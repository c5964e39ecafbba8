// Package stream writes and reads the texts of streams, and puts streams together.
package stream

import (
	"errors"
	"slices"
	"strings"

	"annals/api"
	"annals/bounds"
)

// What can be wrong with a stream.
var (
	errStates = errors.New("no states of a stream")
	errMany   = errors.New("too many records")
	errText   = errors.New("no key, or no value")
	errOrder  = errors.New("keys that do not rise")
	errGone   = errors.New("gone in a full stream, or with a value")
)

// Write tells the text of a stream, or why it is none.
func Write(x api.Stream) (string, error) {
	if err := judge(x); err != nil {
		return "", err
	}
	var w Writer
	var text strings.Builder
	text.WriteString(w.Head(x.Full, x.From, x.To))
	for records := range slices.Chunk(x.Records, api.MaxBlock) {
		text.WriteString(w.Block(records))
	}
	text.WriteString(w.Tail())
	return text.String(), nil
}

// judge tells why something is no stream, nil if it is one.
func judge(x api.Stream) error {
	if !StatesFit(x.Full, x.From, x.To) {
		return errStates
	}
	if len(x.Records) > api.MaxRecords {
		return errMany
	}
	ahead := "" // below every key
	for _, r := range x.Records {
		switch {
		case !bounds.IsKey(r.Key) || !bounds.IsValue(r.Value):
			return errText
		case r.Key <= ahead:
			return errOrder
		case r.Gone && (x.Full || r.Value != ""):
			return errGone
		}
		ahead = r.Key
	}
	return nil
}

// StatesFit tells whether a stream can be from one state to another.
func StatesFit(full bool, from, to int) bool {
	if !bounds.IsState(from) || !bounds.IsState(to) {
		return false
	}
	if full {
		return from == 0
	}
	return from < to
}

// Writer writes the text of a stream piece by piece: the head, the blocks, the tail. The zero Writer has written none.
type Writer struct {
	sum   check // of all pieces so far
	count int   // of all records so far
}

// Head tells what stands ahead of the blocks.
func (w *Writer) Head(full bool, from, to int) string {
	kind := delta
	if full {
		kind = whole
	}
	piece := kind + number(from) + number(to)
	w.sum = w.sum.over(piece)
	return piece
}

// Block tells a block of 1 to MaxBlock records.
func (w *Writer) Block(records []api.Record) string {
	piece := number(len(records))
	ahead := ""
	for _, r := range records {
		piece += record(r, ahead)
		ahead = r.Key
	}
	piece += checkOf(piece)
	w.sum = w.sum.over(piece)
	w.count += len(records)
	return piece
}

// Tail tells what stands behind the blocks.
func (w *Writer) Tail() string {
	piece := number(0) + number(w.count)
	return piece + w.sum.over(piece).bytes()
}

// record tells a record behind one with the key ahead.
func record(r api.Record, ahead string) string {
	common := inCommon(ahead, r.Key)
	more := r.Key[common:]
	text := number(common) + number(len(more)) + more
	if r.Gone {
		return text + number(0)
	}
	return text + number(1+len(r.Value)) + r.Value
}

// inCommon tells how many bytes two texts have in common at their beginning.
func inCommon(a, b string) int {
	n := 0
	for n < len(a) && n < len(b) && a[n] == b[n] {
		n++
	}
	return n
}

// number tells a number that is not below 0.
func number(n int) string {
	var digits []byte
	for n >= 128 {
		digits = append(digits, byte(n)|128)
		n >>= 7
	}
	return string(append(digits, byte(n)))
}
