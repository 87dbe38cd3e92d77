// Package tidings: a feed of changes to a view that outlives crashes, and mirrors that catch up with it over a faulty network: see DOC.md.
package tidings

import (
	"errors"

	"tidings/api"
	"tidings/code"
	"tidings/fault"
	"tidings/feed"
	"tidings/lists"
	"tidings/mirror"
	"tidings/store"
)

// Source keeps the history of a view; Mirror follows one.
type Source struct {
	kept *store.Store
}

type Mirror struct {
	kept *mirror.Mirror
}

// Normal puts entries in order (P4).
func Normal(l []api.Entry) ([]api.Entry, api.Errno) {
	out, err := lists.Normal(l, api.MaxRows)
	return out, errnoOf(err)
}

// Less takes entries away (P4).
func Less(l []api.Entry, m []api.Entry) ([]api.Entry, api.Errno) {
	out, err := lists.Less(l, m)
	return out, errnoOf(err)
}

// Encode writes entries as bytes (P5).
func Encode(l []api.Entry) (string, api.Errno) {
	s, err := code.Write(l)
	return s, errnoOf(err)
}

// Decode reads them (P5).
func Decode(s string) ([]api.Entry, api.Errno) {
	l, err := code.Read(s)
	return l, errnoOf(err)
}

// errnoOf asks for files first, then for bytes: what was wrong inside them has a number too.
func errnoOf(err error) api.Errno {
	var n fault.Number
	switch {
	case errors.Is(err, fault.Number(api.ErrFiles)):
		return api.ErrFiles
	case errors.Is(err, code.ErrBytes):
		return api.ErrCode
	case errors.As(err, &n):
		return api.Errno(n)
	}
	return api.OK
}

// Open opens the source that two files hold (P7, P10).
func Open(a string, b string) (*Source, []api.Act, api.Errno) {
	kept, acts, err := store.Open([2]string{a, b})
	if err != nil {
		return nil, nil, errnoOf(err)
	}
	return &Source{kept}, acts, api.OK
}

// Publish adds a change (P8).
func (s *Source) Publish(l []api.Entry) ([]api.Act, api.Errno) {
	acts, err := s.kept.Publish(l)
	return acts, errnoOf(err)
}

// Sync makes lasting what there is (P9).
func (s *Source) Sync() []api.Act { return s.kept.Sync() }

// Compact forgets the views ahead of a time (P9).
func (s *Source) Compact(time int) ([]api.Act, api.Errno) {
	acts, err := s.kept.Compact(time)
	return acts, errnoOf(err)
}

// View tells the view at a time (P8).
func (s *Source) View(time int) ([]api.Entry, api.Errno) {
	l, err := s.kept.View(time)
	return l, errnoOf(err)
}

// Span tells which times there are (P8).
func (s *Source) Span() api.Span { return s.kept.Span() }

// Handle takes a datagram in (P11).
func (s *Source) Handle(data string) []string { return feed.Answer(s.kept, data) }

// NewMirror makes a mirror (P12).
func NewMirror() *Mirror { return &Mirror{mirror.New()} }

// Tick lets a tick go by (P12).
func (m *Mirror) Tick() []string { return m.kept.Tick() }

// Handle takes a datagram in (P12).
func (m *Mirror) Handle(data string) []string {
	m.kept.Handle(data)
	return nil
}

// View tells what the mirror shows, and of which time (P12).
func (m *Mirror) View() ([]api.Entry, int) { return m.kept.View() }
