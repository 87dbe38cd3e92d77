package code

import (
	"errors"
	"strings"

	"tidings/api"
	"tidings/fault"
)

// ErrBytes is in every error of Read, whatever else was wrong with the list that the bytes seemed to hold.
var ErrBytes = errors.New("bytes that no list is written as")

var (
	errEnd    = errors.New("the bytes end too early")
	errLength = errors.New("more bytes than any list has")
	errTag    = errors.New("no kind of value")
	errNumber = errors.New("a number of more than 64 bits")
	errAgain  = errors.New("the list is written as other bytes")
)

// Read reads what Write has written, and no other bytes.
func Read(s string) ([]api.Entry, error) {
	l, err := readWhole(s)
	return l, fault.Under(ErrBytes, err)
}

// readWhole holds the bytes against those that the list is written as: so no second way of writing it, and nothing behind it, is taken.
func readWhole(s string) ([]api.Entry, error) {
	if len(s) > longest {
		return nil, errLength
	}
	r := &reader{s}
	l, err := r.list()
	if err != nil {
		return nil, err
	}
	again, err := Write(l)
	if err != nil {
		return nil, err
	}
	if again != s {
		return nil, errAgain
	}
	return l, nil
}

// reader holds the bytes that are still to be read.
type reader struct {
	rest string
}

func (r *reader) list() ([]api.Entry, error) {
	n, err := r.next()
	if err != nil || n == 0 {
		return nil, err
	}
	first, err := r.next()
	if err != nil {
		return nil, err
	}
	s := shape(first)
	if s.width() > api.MaxColumns {
		return nil, fault.At("width", s.width(), fault.Number(api.ErrValue))
	}
	shared := api.Row{Width: s.width()}
	if err := r.cells(&shared, s, true); err != nil {
		return nil, err
	}
	var l []api.Entry
	for i := range int(n) {
		e, err := r.entry(shared, s)
		if err != nil {
			return nil, fault.At("entry", i, err)
		}
		l = append(l, e)
	}
	return l, nil
}

// entry reads an entry; shared is a row with the values that are all the same.
func (r *reader) entry(shared api.Row, s shape) (api.Entry, error) {
	e := api.Entry{Row: shared}
	if s == mixed {
		width, err := r.next()
		if err != nil {
			return e, err
		}
		if width > api.MaxColumns {
			return e, fault.At("width", int(width), fault.Number(api.ErrValue))
		}
		e.Row.Width = int(width)
		s = shapeOf(e.Row.Width, 0)
	}
	if err := r.cells(&e.Row, s, false); err != nil {
		return e, err
	}
	weight, err := r.number()
	e.Weight = weight
	return e, err
}

// cells reads the values of the columns that are all the same, or of those that are not.
func (r *reader) cells(row *api.Row, s shape, same bool) error {
	for i := range s.width() {
		if s.same(i) != same {
			continue
		}
		v, err := r.value()
		if err != nil {
			return fault.At("cell", i, err)
		}
		row.Cells[i] = v
	}
	return nil
}

func (r *reader) value() (api.Value, error) {
	tag, err := r.next()
	if err != nil {
		return api.Value{}, err
	}
	switch {
	case tag == tagNull:
		return api.Value{}, nil
	case tag <= tagTrue:
		return api.Value{Kind: api.Bool, Int: int64(tag - tagFalse)}, nil
	case tag == tagInt:
		n, err := r.number()
		return api.Value{Kind: api.Int, Int: n}, err
	case tag <= tagBytes+api.MaxText:
		text, err := r.take(int(tag - tagBytes))
		return api.Value{Kind: api.Bytes, Text: text}, err
	}
	return api.Value{}, errTag
}

func (r *reader) number() (int64, error) {
	var u uint64
	for shift := 0; shift < 64; shift += 7 {
		b, err := r.next()
		if err != nil {
			return 0, err
		}
		u |= uint64(b&0x7f) << shift
		if b < 0x80 {
			return int64(u>>1) ^ -int64(u&1), nil
		}
	}
	return 0, errNumber
}

func (r *reader) next() (byte, error) {
	if r.rest == "" {
		return 0, errEnd
	}
	b := r.rest[0]
	r.rest = r.rest[1:]
	return b, nil
}

// take copies the text, so that no answer holds on to what was handed in.
func (r *reader) take(n int) (string, error) {
	if n > len(r.rest) {
		return "", errEnd
	}
	text := strings.Clone(r.rest[:n])
	r.rest = r.rest[n:]
	return text, nil
}
