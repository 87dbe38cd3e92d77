// Package mirror: a view that catches up with that of a source, by datagrams that come late, twice, in any order or never.
package mirror

import (
	"maps"
	"slices"

	"tidings/api"
	"tidings/lists"
	"tidings/wire"
)

// Mirror is a view and its time, and what has come ahead of its turn: changes, by their time, and pieces of one later view, by their place.
type Mirror struct {
	time    int
	view    []api.Entry
	changes map[int][]api.Entry
	pieces  map[int][]api.Entry
	later   int // the time of the view that the pieces are of
}

// New makes a mirror that shows the view of time 0.
func New() *Mirror {
	return &Mirror{changes: map[int][]api.Entry{}, pieces: map[int][]api.Entry{}}
}

// Tick asks for what is later than the view that is shown. That is asked for by ticks alone, and no datagram of a source is answered: so whatever comes twice, nothing comes of it without end.
func (m *Mirror) Tick() []string {
	return []string{wire.Write(wire.Message{Kind: wire.Ask, Time: m.time})}
}

// View answers the view that is shown, as new memory, and its time.
func (m *Mirror) View() ([]api.Entry, int) { return slices.Clone(m.view), m.time }

// Handle takes a datagram in.
func (m *Mirror) Handle(data string) {
	told, err := wire.Read(data)
	if err != nil {
		return
	}
	switch told.Kind {
	case wire.Change:
		m.takeChange(told.Time, told.List)
	case wire.Piece:
		m.takePiece(told)
	}
	m.catchUp()
}

// takeChange keeps a change until it is its turn. No source tells of one further ahead than it sends datagrams at once.
func (m *Mirror) takeChange(time int, change []api.Entry) {
	if time > m.time && time <= m.time+api.MaxSent {
		m.changes[time] = change
	}
}

// catchUp takes the changes whose turn it is. One that does not fit is no change of this source's: it is let go.
func (m *Mirror) catchUp() {
	for {
		next := m.time + 1
		change, ok := m.changes[next]
		if !ok {
			return
		}
		delete(m.changes, next)
		view, err := lists.View(lists.Term{List: m.view}, lists.Term{List: change})
		if err != nil {
			return
		}
		m.show(next, view)
	}
}

// takePiece keeps a piece until the others of its view are there. Of two views the later one is gathered: a source tells of no earlier one again.
func (m *Mirror) takePiece(p wire.Message) {
	if p.Time < max(m.time+1, m.later) {
		return
	}
	if p.Time > m.later {
		clear(m.pieces)
		m.later = p.Time
	}
	m.pieces[p.Place] = p.List
	if len(m.pieces) < p.Count {
		return
	}
	var terms []lists.Term
	for place := range p.Count {
		terms = append(terms, lists.Term{List: m.pieces[place]})
	}
	view, err := lists.View(terms...)
	if err == nil {
		m.show(p.Time, view)
	}
}

// show takes a later view, and lets go what is not ahead of it any more.
func (m *Mirror) show(time int, view []api.Entry) {
	m.time, m.view = time, view
	maps.DeleteFunc(m.changes, func(t int, _ []api.Entry) bool { return t <= time })
	if m.later <= time {
		clear(m.pieces)
	}
}
