// Package history: the changes of a source, one behind the other, and the views that they make.
package history

import (
	"slices"

	"tidings/api"
	"tidings/fault"
	"tidings/lists"
)

// step is how many changes lie between two marks: a view is worked out from fewer changes than that.
const step = 16

// mark is the view at a time. The lists of marks and changes are never written into, so they may be the same memory.
type mark struct {
	time int
	view []api.Entry
}

// History holds marks in rising order, the first of them at the floor, all changes behind the floor, and the view behind the last one.
type History struct {
	marks   []mark
	changes [][]api.Entry
	view    []api.Entry
}

// New makes a history without changes.
func New() *History {
	return &History{marks: []mark{{}}}
}

// Restore makes the history that has this view at its floor, and these changes behind it. The lists are in order, and kept.
func Restore(floor int, view []api.Entry, changes [][]api.Entry) (*History, error) {
	if floor+len(changes) > api.MaxTime {
		return nil, fault.At("change", api.MaxTime+1, fault.Number(api.ErrFull))
	}
	h := &History{marks: []mark{{floor, view}}, view: view}
	// A sum for each mark takes far less than one for each change, and the views between were looked at when they were published.
	for part := range slices.Chunk(changes, step) {
		h.changes = append(h.changes, part...)
		view, err := h.View(h.Now())
		if err != nil {
			return nil, fault.At("change", h.Now(), err)
		}
		h.show(view)
	}
	return h, nil
}

// Floor is the earliest time whose view is kept.
func (h *History) Floor() int { return h.marks[0].time }

// Now is how many changes there have been.
func (h *History) Now() int { return h.Floor() + len(h.changes) }

// Publish adds a change, its entries in any order. With an error nothing is added.
func (h *History) Publish(l []api.Entry) error {
	change, err := lists.Normal(l, api.MaxEntries)
	if err != nil {
		return fault.At("change", h.Now()+1, err)
	}
	view, err := h.viewBehind(change)
	if err != nil {
		return fault.At("change", h.Now()+1, err)
	}
	h.changes = append(h.changes, change)
	h.show(view)
	return nil
}

// show takes the view behind the last change.
func (h *History) show(view []api.Entry) {
	h.view = view
	if last := h.marks[len(h.marks)-1]; h.Now() == last.time+step {
		h.marks = append(h.marks, mark{h.Now(), view})
	}
}

// viewBehind answers the view behind a change that is still to come.
func (h *History) viewBehind(change []api.Entry) ([]api.Entry, error) {
	if h.Now() >= api.MaxTime {
		return nil, fault.Number(api.ErrFull)
	}
	return lists.View(lists.Term{List: h.view}, lists.Term{List: change})
}

// Change answers the change of a time behind the floor. It is not to be written into.
func (h *History) Change(time int) []api.Entry { return h.changes[time-h.Floor()-1] }

// Forget makes a time the floor. With an error nothing is forgotten.
func (h *History) Forget(time int) error {
	view, err := h.View(time)
	if err != nil {
		return err
	}
	// A copy, for a piece of the old slice would hold on to what is forgotten.
	h.changes = slices.Clone(h.changes[time-h.Floor():])
	marks := []mark{{time, view}}
	for _, m := range h.marks {
		if m.time > time {
			marks = append(marks, m)
		}
	}
	h.marks = marks
	return nil
}

// View answers the view at a time, as new memory.
func (h *History) View(time int) ([]api.Entry, error) {
	if time < h.Floor() || time > h.Now() {
		return nil, fault.At("time", time, fault.Number(api.ErrTime))
	}
	from := h.markAt(time)
	terms := []lists.Term{{List: from.view}}
	for _, c := range h.changes[from.time-h.Floor() : time-h.Floor()] {
		terms = append(terms, lists.Term{List: c})
	}
	return lists.View(terms...)
}

// markAt answers the last mark that is not later than a time, which is not below the floor.
func (h *History) markAt(time int) mark {
	last := len(h.marks) - 1
	for h.marks[last].time > time {
		last--
	}
	return h.marks[last]
}
