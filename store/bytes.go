package store

import (
	"errors"
	"strings"

	"tidings/api"
	"tidings/code"
	"tidings/fault"
	"tidings/history"
)

// errEnd says that a file ends too early: so a crash leaves it.
var errEnd = errors.New("the file ends too early")

// left is what a file still tells of a history.
type left struct {
	floor   int
	view    []api.Entry
	changes [][]api.Entry
	torn    bool // a piece of one more change lies behind them
}

// whole writes a history as a file.
func whole(past *history.History) string {
	var b strings.Builder
	b.WriteString(number(past.Floor()))
	b.WriteString(number(past.Now() - past.Floor()))
	view, _ := past.View(past.Floor())
	b.WriteString(block(view))
	for time := past.Floor() + 1; time <= past.Now(); time++ {
		b.WriteString(block(past.Change(time)))
	}
	return b.String()
}

// block writes a list of a history: it is in order, so that there is nothing to refuse.
func block(l []api.Entry) string {
	bytes, _ := code.Write(l)
	return number(len(bytes)) + bytes
}

func number(n int) string { return string([]byte{byte(n), byte(n >> 8)}) }

// read reads a file. The error is errEnd, if a crash may have left it ahead of its being whole.
func read(file string) (*left, error) {
	r := &reader{file}
	floor, err := r.number()
	if err != nil {
		return nil, err
	}
	count, err := r.number()
	if err != nil {
		return nil, err
	}
	view, err := r.block(api.MaxRows)
	if err != nil {
		return nil, fault.At("view", floor, err)
	}
	l := &left{floor: floor, view: view}
	// One change too many is enough to tell that there are.
	for r.rest != "" && !l.torn && len(l.changes) <= api.MaxTime {
		change, err := r.block(api.MaxEntries)
		switch {
		case errors.Is(err, errEnd):
			l.torn = true
		case err != nil:
			return nil, fault.At("change", floor+len(l.changes)+1, err)
		default:
			l.changes = append(l.changes, change)
		}
	}
	if len(l.changes) < count {
		return nil, fault.At("change", floor+len(l.changes)+1, errEnd)
	}
	return l, nil
}

// reader holds the bytes that are still to be read.
type reader struct {
	rest string
}

func (r *reader) number() (int, error) {
	s, err := r.take(2)
	if err != nil {
		return 0, err
	}
	return int(s[0]) | int(s[1])<<8, nil
}

// block reads a list of at most so many entries.
func (r *reader) block(most int) ([]api.Entry, error) {
	n, err := r.number()
	if err != nil {
		return nil, err
	}
	bytes, err := r.take(n)
	if err != nil {
		return nil, err
	}
	l, err := code.Read(bytes)
	if err == nil && len(l) > most {
		return nil, fault.At("entry", most, fault.Number(api.ErrMany))
	}
	return l, err
}

func (r *reader) take(n int) (string, error) {
	if n > len(r.rest) {
		return "", errEnd
	}
	s := r.rest[:n]
	r.rest = r.rest[n:]
	return s, nil
}
