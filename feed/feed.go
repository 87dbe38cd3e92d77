// Package feed: what a source tells the mirrors that ask it.
package feed

import (
	"tidings/api"
	"tidings/store"
	"tidings/wire"
)

// Answer answers what a mirror is to be told that has sent a datagram: the changes behind its time, or, where they are forgotten, the view at the floor. It tells of no time that does not last yet: a crash may make it another one.
func Answer(s *store.Store, data string) []string {
	m, err := wire.Read(data)
	switch {
	case err != nil || m.Kind != wire.Ask:
		return nil
	case m.Time < s.Span().Floor:
		return view(s)
	}
	return changes(s, m.Time)
}

// changes answers the first changes behind a time.
func changes(s *store.Store, time int) []string {
	var sent []string
	last := min(time+api.MaxSent, s.Span().Lasting)
	for time < last {
		time++
		sent = append(sent, wire.Write(wire.Message{Kind: wire.Change, Time: time, List: s.Change(time)}))
	}
	return sent
}

// view answers the pieces of the view at the floor. That stays the same for longer than the view at the last time that lasts: so pieces that are lost are made good by those of a later answer.
func view(s *store.Store) []string {
	floor := s.Span().Floor
	rows, _ := s.View(floor)
	// Of a view without rows there is a piece too, for it is to be told of.
	count := max(1, (len(rows)+api.Chunk-1)/api.Chunk)
	var sent []string
	for place := range count {
		piece := rows[place*api.Chunk : min((place+1)*api.Chunk, len(rows))]
		sent = append(sent, wire.Write(wire.Message{Kind: wire.Piece, Time: floor, Place: place, Count: count, List: piece}))
	}
	return sent
}
