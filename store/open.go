package store

import (
	"errors"
	"strings"

	"tidings/api"
	"tidings/fault"
	"tidings/history"
)

var errNone = errors.New("no file is whole")

// Open opens the store that has left two files behind, by a crash or by none. Whatever is wrong with them, the error is ErrFiles.
func Open(files [2]string) (*Store, []api.Act, error) {
	s, acts, err := open(files)
	return s, acts, fault.Under(fault.Number(api.ErrFiles), err)
}

func open(files [2]string) (*Store, []api.Act, error) {
	var found [2]*left
	for i, f := range files {
		l, err := read(f)
		if err != nil && !errors.Is(err, errEnd) {
			return nil, nil, fault.At("file", i, err)
		}
		found[i] = l
	}
	if found[0] == nil && found[1] == nil {
		return begin(files)
	}
	file := latest(found)
	l := found[file]
	past, err := history.Restore(l.floor, l.view, l.changes)
	if err != nil {
		return nil, nil, fault.At("file", file, err)
	}
	s := &Store{past: past, file: file, lasting: past.Now()}
	return s, s.tidy(l.torn), nil
}

// begin opens a store without changes. Only ahead of its first acts' end no file is whole: of the one that they write there may be a piece.
func begin(files [2]string) (*Store, []api.Act, error) {
	past := history.New()
	rest, ok := strings.CutPrefix(whole(past), files[0])
	if !ok || files[1] != "" {
		return nil, nil, errNone
	}
	return &Store{past: past}, []api.Act{
		{Kind: api.Append, File: 0, Data: rest},
		{Kind: api.Sync, File: 0},
	}, nil
}

// latest answers which file holds the history; one of them is whole. If both are, a crash came between a move's last acts: then the later floor is that of the new file; with the same floor both hold the same changes, and the torn file is the old one.
func latest(found [2]*left) int {
	a, b := found[0], found[1]
	if b == nil || a != nil && (a.floor > b.floor || a.floor == b.floor && b.torn) {
		return 0
	}
	return 1
}

// tidy makes all last that was found, and the other file empty: what a move has left there is a piece of a new file or an old one.
func (s *Store) tidy(torn bool) []api.Act {
	erase := api.Act{Kind: api.Erase, File: 1 - s.file}
	if torn {
		return append([]api.Act{erase}, s.move()...)
	}
	return []api.Act{{Kind: api.Sync, File: s.file}, erase}
}
