// Package wire: what mirrors and sources send one another, as datagrams.
//
// The bytes of a datagram: the kind; the time, the lower byte first; the place and the count of a piece, else 0; the list, as package code writes it; the check of all these, the lowest byte first.
package wire

import (
	"errors"

	"tidings/api"
	"tidings/code"
	"tidings/fault"
)

// The kinds of messages.
const (
	Ask    = 1 // a mirror that shows the view of this time asks for what is later
	Change = 2 // the change of this time
	Piece  = 3 // a piece of the view at this time
)

// Message is what a datagram tells.
type Message struct {
	Kind, Time   int
	Place, Count int // of a piece: its place among the others, from 0 on, and how many there are
	List         []api.Entry
}

// headLength is how many bytes there are ahead of the list, checkLength how many behind it.
const (
	headLength  = 5
	checkLength = 4
)

var (
	errLength  = errors.New("no datagram is as short or as long")
	errSpoiled = errors.New("the datagram is spoiled")
	errMessage = errors.New("nobody sends such a message")
)

// Write writes a message as a datagram. Its list is in order, so that there is nothing to refuse.
func Write(m Message) string {
	list, _ := code.Write(m.List)
	head := []byte{byte(m.Kind), byte(m.Time), byte(m.Time >> 8), byte(m.Place), byte(m.Count)}
	return seal(string(head) + list)
}

// Read reads a datagram, and no other bytes.
func Read(data string) (Message, error) {
	if len(data) < max(api.MinData, headLength+checkLength) || len(data) > api.MaxData {
		return Message{}, fault.At("length", len(data), errLength)
	}
	body := data[:len(data)-checkLength]
	if seal(body) != data {
		return Message{}, errSpoiled
	}
	list, err := code.Read(body[headLength:])
	if err != nil {
		return Message{}, fault.At("byte", headLength, err)
	}
	m := Message{
		Kind:  int(body[0]),
		Time:  int(body[1]) | int(body[2])<<8,
		Place: int(body[3]),
		Count: int(body[4]),
		List:  list,
	}
	if !m.isSent() {
		return Message{}, fault.At("kind", m.Kind, errMessage)
	}
	return m, nil
}

// isSent tells whether a source or a mirror sends such a message.
func (m Message) isSent() bool {
	if m.Time > api.MaxTime {
		return false
	}
	switch m.Kind {
	case Ask:
		return m.Count == 0 && m.Place == 0 && len(m.List) == 0
	case Change:
		return m.Count == 0 && m.Place == 0 && len(m.List) <= api.MaxEntries
	case Piece:
		return m.Count <= api.MaxSent && m.Place < m.Count && len(m.List) <= api.Chunk
	}
	return false
}
