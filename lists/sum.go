package lists

import (
	"sync"

	"tidings/api"
	"tidings/fault"
)

// Term is a list to be added or taken away. Its rows never fall; the same row may come again.
type Term struct {
	List []api.Entry
	Away bool
}

// stream is a term on its way: its head has been received, the entries behind it have not.
type stream struct {
	entries <-chan api.Entry
	head    api.Entry
	away    bool
}

// Sum merges the terms into one list in order. It answers ErrWeight, if 64 bits do not hold the sum of a row.
func Sum(terms ...Term) ([]api.Entry, error) {
	var senders sync.WaitGroup
	streams := start(terms, &senders)
	var out []api.Entry
	var wrong error
	for len(streams) > 0 {
		row := leastRow(streams)
		var t total
		streams, t = takeRow(streams, row)
		weight, fits := t.narrow()
		// What is wrong does not end the loop: a sender whose channel nobody drains would never end.
		if !fits && wrong == nil {
			wrong = fault.At("row", len(out), fault.Number(api.ErrWeight))
		}
		if weight != 0 && wrong == nil {
			out = append(out, api.Entry{Row: row, Weight: weight})
		}
	}
	senders.Wait()
	if wrong != nil {
		return nil, wrong
	}
	return out, nil
}

// View merges the terms into a view: it answers ErrFull too, if there are more rows than one may have.
func View(terms ...Term) ([]api.Entry, error) {
	view, err := Sum(terms...)
	if err == nil && len(view) > api.MaxRows {
		return nil, fault.At("row", api.MaxRows, fault.Number(api.ErrFull))
	}
	return view, err
}

// start sets a sender to work for each term; it answers the streams that are not empty.
func start(terms []Term, senders *sync.WaitGroup) []*stream {
	var streams []*stream
	for _, t := range terms {
		c := make(chan api.Entry)
		senders.Go(func() { send(t.List, c) })
		s := &stream{entries: c, away: t.Away}
		if s.advance() {
			streams = append(streams, s)
		}
	}
	return streams
}

func send(l []api.Entry, c chan<- api.Entry) {
	defer close(c)
	for _, e := range l {
		c <- e
	}
}

// advance receives the next head; it answers false when the stream has come to its end.
func (s *stream) advance() bool {
	e, more := <-s.entries
	s.head = e
	return more
}

func leastRow(streams []*stream) api.Row {
	least := streams[0].head.Row
	for _, s := range streams[1:] {
		if Compare(s.head.Row, least) < 0 {
			least = s.head.Row
		}
	}
	return least
}

// takeRow takes a row out of all streams that have it ahead; it answers the streams that go on, and the row's sum.
func takeRow(streams []*stream, row api.Row) ([]*stream, total) {
	on := streams[:0]
	var t total
	for _, s := range streams {
		more := true
		for more && s.head.Row == row {
			t = t.with(s.head.Weight, s.away)
			more = s.advance()
		}
		if more {
			on = append(on, s)
		}
	}
	return on, t
}
