// Package store: a history that is written into two files, so that it outlives crashes.
//
// The bytes of a file: the floor; how many changes were written together with it; the view at the floor; the changes behind it, one behind the other.
// A number takes two bytes, the lower one first; a list is a number, the length, and behind it the bytes of package code.
//
// One file holds the history, and each change is appended to it; the other one is empty. To forget what is old, or to be rid of a piece of a change that a crash has left, all is written anew into the other file. The old file is erased only when that lasts: so at any moment one of them is whole. A file is whole, if all the changes are there that were written together with its floor.
package store

import (
	"tidings/api"
	"tidings/fault"
	"tidings/history"
)

// Store is a history, the file that it is written into, and the time up to which all lasts.
type Store struct {
	past    *history.History
	file    int
	lasting int
}

// Publish adds a change, its entries in any order.
func (s *Store) Publish(l []api.Entry) ([]api.Act, error) {
	if err := s.past.Publish(l); err != nil {
		return nil, err
	}
	change := s.past.Change(s.past.Now())
	return []api.Act{{Kind: api.Append, File: s.file, Data: block(change)}}, nil
}

// Sync makes all changes last.
func (s *Store) Sync() []api.Act {
	if s.lasting == s.past.Now() {
		return nil
	}
	s.lasting = s.past.Now()
	return []api.Act{{Kind: api.Sync, File: s.file}}
}

// Compact makes a time the floor, and all changes last.
func (s *Store) Compact(time int) ([]api.Act, error) {
	if time > s.lasting {
		return nil, fault.At("time", time, fault.Number(api.ErrTime))
	}
	if time == s.past.Floor() {
		return s.Sync(), nil
	}
	if err := s.past.Forget(time); err != nil {
		return nil, err
	}
	return s.move(), nil
}

// move writes all into the other file, which is empty.
func (s *Store) move() []api.Act {
	old := s.file
	s.file = 1 - old
	s.lasting = s.past.Now()
	return []api.Act{
		{Kind: api.Append, File: s.file, Data: whole(s.past)},
		{Kind: api.Sync, File: s.file},
		{Kind: api.Erase, File: old},
	}
}

// View answers the view at a time, as new memory.
func (s *Store) View(time int) ([]api.Entry, error) { return s.past.View(time) }

// Change answers the change of a time behind the floor. It is not to be written into.
func (s *Store) Change(time int) []api.Entry { return s.past.Change(time) }

// Span tells which times there are.
func (s *Store) Span() api.Span {
	return api.Span{Floor: s.past.Floor(), Lasting: s.lasting, Now: s.past.Now()}
}
