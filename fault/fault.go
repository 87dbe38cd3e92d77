// Package fault: what is wrong, as values of error: a number of package api, wrapped by the places where it was met.
package fault

import (
	"strconv"

	"tidings/api"
)

// Number is an Errno as an error; api.Errno itself is none.
type Number api.Errno

func (n Number) Error() string {
	switch api.Errno(n) {
	case api.ErrValue:
		return "no value"
	case api.ErrMany:
		return "too many entries"
	case api.ErrWeight:
		return "a weight that 64 bits do not hold"
	case api.ErrOrder:
		return "not in order"
	case api.ErrFiles:
		return "files that no source has left behind"
	case api.ErrTime:
		return "a time that is not kept"
	case api.ErrFull:
		return "no more room"
	}
	return "error " + strconv.Itoa(int(n))
}

// place is an error and where it was met.
type place struct {
	name  string
	index int
	err   error
}

func (p *place) Error() string {
	return p.name + " " + strconv.Itoa(p.index) + ": " + p.err.Error()
}

func (p *place) Unwrap() error { return p.err }

// At wraps an error by where it was met; where nothing is wrong it answers nil.
func At(name string, index int, err error) error {
	if err == nil {
		return nil
	}
	return &place{name, index, err}
}

// headed is an error under another one, which says what it all comes to.
type headed struct {
	head, err error
}

func (h *headed) Error() string { return h.head.Error() + ": " + h.err.Error() }

func (h *headed) Unwrap() []error { return []error{h.head, h.err} }

// Under puts an error under another one; where nothing is wrong it answers nil.
func Under(head, err error) error {
	if err == nil {
		return nil
	}
	return &headed{head, err}
}
