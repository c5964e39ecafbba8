package stream

import (
	"errors"
	"strconv"
	"strings"

	"annals/api"
)

// The letters that a text begins with.
const (
	whole = "ANNF"
	delta = "ANND"
)

const maxDigits = 5 // bytes of a number

// ErrSum says that a text does not end with the check of all ahead of that.
var ErrSum = errors.New("another check")

// What else can be wrong with a text.
var (
	errCut     = errors.New("cut off")
	errLetters = errors.New("other letters")
	errNumber  = errors.New("no number")
	errBounds  = errors.New("a number out of its bounds")
	errBlock   = errors.New("another check of a block")
	errCount   = errors.New("another number of records")
	errBehind  = errors.New("something behind the end")
	errOther   = errors.New("not as the stream is written")
)

// Fault is every error of Read: what is wrong, and the place where that begins.
type Fault struct {
	Place int
	Wrong error
}

func (f *Fault) Error() string {
	return f.Wrong.Error() + ", at " + strconv.Itoa(f.Place)
}

// Unwrap gives what is wrong.
func (f *Fault) Unwrap() error { return f.Wrong }

// Read reads the text of a stream.
func Read(text string) (api.Stream, error) {
	end := len(text) - checkSize
	if end < 0 || text[end:] != checkOf(text[:end]) {
		return api.Stream{}, &Fault{0, ErrSum}
	}
	r := reader{text: text[:end]}
	x, err := r.stream()
	if err != nil {
		return api.Stream{}, err
	}
	again, err := Write(x)
	if err != nil {
		return api.Stream{}, &Fault{0, err}
	}
	if again != text {
		return api.Stream{}, &Fault{0, errOther}
	}
	return x, nil
}

// reader goes through a text, but for the check at its end.
type reader struct {
	text    string
	at      int          // where what is read next begins
	count   int          // of all records so far
	records []api.Record // the first ones of them
}

// stream reads all.
func (r *reader) stream() (api.Stream, error) {
	full, err := r.kind()
	if err != nil {
		return api.Stream{}, err
	}
	from, err := r.number()
	if err != nil {
		return api.Stream{}, err
	}
	to, err := r.number()
	if err != nil {
		return api.Stream{}, err
	}
	for more := true; more; {
		if more, err = r.block(); err != nil {
			return api.Stream{}, err
		}
	}
	if err := r.tail(); err != nil {
		return api.Stream{}, err
	}
	// a number that is too great for an int is so for a state: what becomes of it here is not written as it was
	return api.Stream{Full: full, From: int(from), To: int(to), Records: r.records}, nil
}

// kind reads the letters, which tell whether the stream is a full one.
func (r *reader) kind() (bool, error) {
	letters, err := r.take(len(whole))
	if err != nil {
		return false, err
	}
	if letters != whole && letters != delta {
		return false, &Fault{0, errLetters}
	}
	return letters == whole, nil
}

// block reads a block, or the number 0 that stands where there is none any more.
func (r *reader) block() (bool, error) {
	begin := r.at
	n, err := r.bounded(0, api.MaxBlock)
	if n == 0 || err != nil {
		return false, err
	}
	ahead := ""
	for range n {
		x, err := r.record(ahead)
		if err != nil {
			return false, err
		}
		r.keep(x)
		ahead = x.Key
	}
	end := r.at
	sum, err := r.take(checkSize)
	if err != nil {
		return false, err
	}
	if sum != checkOf(r.text[begin:end]) {
		return false, &Fault{end, errBlock}
	}
	return true, nil
}

// record reads a record behind one with the key ahead.
func (r *reader) record(ahead string) (api.Record, error) {
	common, err := r.bounded(0, len(ahead))
	if err != nil {
		return api.Record{}, err
	}
	more, err := r.bounded(max(0, 1-common), api.MaxKey-common)
	if err != nil {
		return api.Record{}, err
	}
	rest, err := r.take(more)
	if err != nil {
		return api.Record{}, err
	}
	// what comes out shares no memory with the text
	x := api.Record{Key: ahead[:common] + strings.Clone(rest)}
	size, err := r.bounded(0, 1+api.MaxValue)
	if err != nil {
		return api.Record{}, err
	}
	if size == 0 {
		x.Gone = true
		return x, nil
	}
	value, err := r.take(size - 1)
	if err != nil {
		return api.Record{}, err
	}
	x.Value = strings.Clone(value)
	return x, nil
}

// keep notes a record. Where there are too many for a stream, one too many is enough to tell that.
func (r *reader) keep(x api.Record) {
	r.count++
	if len(r.records) <= api.MaxRecords {
		r.records = append(r.records, x)
	}
}

// tail reads what stands behind the blocks.
func (r *reader) tail() error {
	begin := r.at
	n, err := r.number()
	if err != nil {
		return err
	}
	if n != int64(r.count) {
		return &Fault{begin, errCount}
	}
	if r.at < len(r.text) {
		return &Fault{r.at, errBehind}
	}
	return nil
}

// take reads so many bytes.
func (r *reader) take(n int) (string, error) {
	if n > len(r.text)-r.at {
		return "", &Fault{r.at, errCut}
	}
	r.at += n
	return r.text[r.at-n : r.at], nil
}

// bounded reads a number that must be within bounds.
func (r *reader) bounded(least, most int) (int, error) {
	begin := r.at
	n, err := r.number()
	if err != nil {
		return 0, err
	}
	if n < int64(least) || n > int64(most) {
		return 0, &Fault{begin, errBounds}
	}
	return int(n), nil
}

// number reads a number; it has up to 35 bits.
func (r *reader) number() (int64, error) {
	var n int64
	for i := range maxDigits {
		if r.at+i == len(r.text) {
			return 0, &Fault{r.at, errCut}
		}
		digit := r.text[r.at+i]
		n |= int64(digit&127) << (7 * i)
		if digit < 128 {
			if digit == 0 && i > 0 {
				break
			}
			r.at += i + 1
			return n, nil
		}
	}
	return 0, &Fault{r.at, errNumber}
}
