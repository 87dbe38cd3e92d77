// Package history: the changes of a source, one behind the other, and the views that they make.
package history

import (
	"tidings/api"
	"tidings/fault"
	"tidings/lists"
)

// step is how many changes lie between two marks: a view is worked out from fewer changes than that.
const step = 16

// mark is the view at a time. The lists of marks and changes are never written into, so they may be the same memory.
type mark struct {
	time int
	view []api.Entry
}

// History holds marks in rising order, the first of them at the floor, all changes behind the floor, and the view behind the last one.
type History struct {
	marks   []mark
	changes [][]api.Entry
	view    []api.Entry
}

// New makes a history without changes.
func New() *History {
	return &History{marks: []mark{{}}}
}

// Floor is the earliest time whose view is kept.
func (h *History) Floor() int { return h.marks[0].time }

// Now is how many changes there have been.
func (h *History) Now() int { return h.Floor() + len(h.changes) }

// Publish adds a change, its entries in any order. With an error nothing is added.
func (h *History) Publish(l []api.Entry) error {
	change, err := lists.Normal(l, api.MaxEntries)
	if err != nil {
		return fault.At("change", h.Now()+1, err)
	}
	view, err := h.viewBehind(change)
	if err != nil {
		return fault.At("change", h.Now()+1, err)
	}
	h.changes = append(h.changes, change)
	h.view = view
	if last := h.marks[len(h.marks)-1]; h.Now() == last.time+step {
		h.marks = append(h.marks, mark{h.Now(), view})
	}
	return nil
}

// viewBehind answers the view behind a change that is still to come.
func (h *History) viewBehind(change []api.Entry) ([]api.Entry, error) {
	if h.Now() >= api.MaxTime {
		return nil, fault.Number(api.ErrFull)
	}
	view, err := lists.Sum(lists.Term{List: h.view}, lists.Term{List: change})
	if err == nil && len(view) > api.MaxRows {
		return nil, fault.At("row", api.MaxRows, fault.Number(api.ErrFull))
	}
	return view, err
}

// View answers the view at a time, as new memory.
func (h *History) View(time int) ([]api.Entry, error) {
	if time < h.Floor() || time > h.Now() {
		return nil, fault.At("time", time, fault.Number(api.ErrTime))
	}
	from := h.markAt(time)
	terms := []lists.Term{{List: from.view}}
	for _, c := range h.changes[from.time-h.Floor() : time-h.Floor()] {
		terms = append(terms, lists.Term{List: c})
	}
	return lists.Sum(terms...)
}

// markAt answers the last mark that is not later than a time, which is not below the floor.
func (h *History) markAt(time int) mark {
	last := len(h.marks) - 1
	for h.marks[last].time > time {
		last--
	}
	return h.marks[last]
}
