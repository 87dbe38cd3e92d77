package history

import (
	"errors"
	"math"
	"slices"
	"testing"

	"tidings/api"
	"tidings/fault"
)

func entry(weight, n int64) api.Entry {
	e := api.Entry{Row: api.Row{Width: 1}, Weight: weight}
	e.Row.Cells[0] = api.Value{Kind: api.Int, Int: n}
	return e
}

// TestViewsAcrossMarks: each view is the same, whether a mark lies at its time, right ahead of it or right behind it.
func TestViewsAcrossMarks(t *testing.T) {
	h := New()
	for time := range 5*step + 2 {
		for back := range time + 1 {
			l, err := h.View(back)
			want := []api.Entry{entry(int64(back), 1), entry(1, int64(back)+1)}
			switch back {
			case 0:
				want = nil
			case 1:
				want = []api.Entry{entry(1, 1), entry(1, 2)}
			}
			if err != nil || !slices.Equal(l, want) {
				t.Fatalf("behind %d changes: View(%d) = %v, %v, want %v", time, back, l, err, want)
			}
		}
		change := []api.Entry{entry(1, int64(time)+2), entry(1, 1)}
		if time > 0 {
			change = append(change, entry(-1, int64(time)+1))
		}
		if err := h.Publish(change); err != nil {
			t.Fatal(err)
		}
	}
}

func TestErrorsNameThePlace(t *testing.T) {
	h := New()
	heavy := []api.Entry{entry(math.MaxInt64, 1)}
	if err := h.Publish(heavy); err != nil {
		t.Fatal(err)
	}
	_, late := h.View(2)
	_, early := h.View(-1)
	for _, c := range []struct {
		err  error
		want string
		n    api.Errno
	}{
		{h.Publish([]api.Entry{entry(1, 1), {}}), "change 2: entry 1: width 0: no value", api.ErrValue},
		{h.Publish(slices.Repeat(heavy, 33)), "change 2: entry 32: too many entries", api.ErrMany},
		{h.Publish(slices.Repeat(heavy, 2)), "change 2: row 0: a weight that 64 bits do not hold", api.ErrWeight},
		{h.Publish([]api.Entry{entry(1, 0), entry(1, 1)}), "change 2: row 1: a weight that 64 bits do not hold", api.ErrWeight},
		{late, "time 2: a time that is not kept", api.ErrTime},
		{early, "time -1: a time that is not kept", api.ErrTime},
	} {
		if c.err == nil || c.err.Error() != c.want || !errors.Is(c.err, fault.Number(c.n)) {
			t.Errorf("%v, want %s", c.err, c.want)
		}
	}
	if h.Now() != 1 || h.Floor() != 0 {
		t.Errorf("from %d to %d", h.Floor(), h.Now())
	}
}

func TestRoomNamesThePlace(t *testing.T) {
	h := New()
	for time := range api.MaxRows / api.MaxEntries {
		var change []api.Entry
		for i := range api.MaxEntries {
			change = append(change, entry(1, int64(time*api.MaxEntries+i)))
		}
		if err := h.Publish(change); err != nil {
			t.Fatal(err)
		}
	}
	if err := h.Publish([]api.Entry{entry(1, -1)}); err == nil || err.Error() != "change 5: row 128: no more room" {
		t.Errorf("a row too many: %v", err)
	}
	for h.Now() < api.MaxTime {
		if err := h.Publish(nil); err != nil {
			t.Fatal(err)
		}
	}
	if err := h.Publish(nil); err == nil || err.Error() != "change 1001: no more room" {
		t.Errorf("a change too many: %v", err)
	}
}

// published: a history of so many changes, and the views that they make.
func published(t *testing.T, n int) (*History, [][]api.Entry) {
	t.Helper()
	h := New()
	views := [][]api.Entry{nil}
	for i := range n {
		if err := h.Publish([]api.Entry{entry(1, int64(i%50)), entry(2, 100)}); err != nil {
			t.Fatal(err)
		}
		views = append(views, h.view)
	}
	return h, views
}

// wantViews: the views from a floor on are these, and there are no others.
func wantViews(t *testing.T, h *History, floor int, views [][]api.Entry) {
	t.Helper()
	if h.Floor() != floor || h.Now() != len(views)-1 {
		t.Fatalf("from %d to %d, want from %d to %d", h.Floor(), h.Now(), floor, len(views)-1)
	}
	for time := -1; time <= len(views); time++ {
		l, err := h.View(time)
		if time < floor || time == len(views) {
			if !errors.Is(err, fault.Number(api.ErrTime)) {
				t.Fatalf("View(%d) = %v, %v", time, l, err)
			}
		} else if err != nil || !slices.Equal(l, views[time]) {
			t.Fatalf("View(%d) = %v, %v, want %v", time, l, err, views[time])
		}
	}
}

// wantToGoOn: the history takes changes as any other does, and its marks lie no further apart; it answers the views with theirs.
func wantToGoOn(t *testing.T, h *History, floor int, views [][]api.Entry) [][]api.Entry {
	t.Helper()
	for range step + 1 {
		if err := h.Publish([]api.Entry{entry(1, 200)}); err != nil {
			t.Fatal(err)
		}
		views = append(views, h.view)
	}
	wantViews(t, h, floor, views)
	last := floor
	for _, m := range h.marks[1:] {
		if m.time <= last || m.time > last+step {
			t.Fatalf("floor %d: marks lie at %d and %d", floor, last, m.time)
		}
		last = m.time
	}
	if h.Now() >= last+step {
		t.Fatalf("floor %d: the last mark lies at %d of %d", floor, last, h.Now())
	}
	return views
}

func TestForgetKeepsTheViewsBehind(t *testing.T) {
	const n = 3*step + 5
	for floor := range n + 1 {
		h, views := published(t, n)
		if err := h.Forget(floor); err != nil {
			t.Fatal(err)
		}
		wantViews(t, h, floor, views)
		views = wantToGoOn(t, h, floor, views)
		for _, time := range []int{floor - 1, h.Now() + 1} {
			if err := h.Forget(time); !errors.Is(err, fault.Number(api.ErrTime)) {
				t.Fatalf("Forget(%d): %v", time, err)
			}
		}
		wantViews(t, h, floor, views)
	}
}

// TestForgetHoldsOnToNothing: the changes that are forgotten, and no room for them.
func TestForgetHoldsOnToNothing(t *testing.T) {
	h, _ := published(t, 500)
	if err := h.Forget(490); err != nil {
		t.Fatal(err)
	}
	if len(h.changes) != 10 || cap(h.changes) > 20 || len(h.marks) != 2 {
		t.Errorf("%d changes, room for %d, %d marks", len(h.changes), cap(h.changes), len(h.marks))
	}
}

func TestRestoreMakesTheSameHistory(t *testing.T) {
	for _, n := range []int{0, 1, step - 1, step, step + 1, 5*step + 3} {
		for _, floor := range []int{0, n / 2, n} {
			from, views := published(t, n)
			view, _ := from.View(floor)
			var changes [][]api.Entry
			for time := floor + 1; time <= n; time++ {
				changes = append(changes, from.Change(time))
			}
			h, err := Restore(floor, view, changes)
			if err != nil {
				t.Fatal(err)
			}
			wantViews(t, h, floor, views)
			wantToGoOn(t, h, floor, views)
		}
	}
}

func TestRestoreRefuses(t *testing.T) {
	var rows []api.Entry
	for i := range int64(api.MaxRows) {
		rows = append(rows, entry(1, i))
	}
	heavy := []api.Entry{entry(math.MaxInt64, 1)}
	for _, c := range []struct {
		floor   int
		view    []api.Entry
		changes [][]api.Entry
		want    string
	}{
		{1000, nil, make([][]api.Entry, 1), "change 1001: no more room"},
		{0, nil, make([][]api.Entry, 1001), "change 1001: no more room"},
		{1001, nil, nil, "change 1001: no more room"},
		{7, rows, [][]api.Entry{nil, {entry(1, -1)}}, "change 9: row 128: no more room"},
		{7, heavy, [][]api.Entry{nil, heavy}, "change 9: row 0: a weight that 64 bits do not hold"},
	} {
		if h, err := Restore(c.floor, c.view, c.changes); h != nil || err == nil || err.Error() != c.want {
			t.Errorf("Restore: %v, want %s", err, c.want)
		}
	}
	for _, floor := range []int{0, 1, 999, 1000} {
		if h, err := Restore(floor, rows, make([][]api.Entry, 1000-floor)); err != nil || h.Now() != 1000 {
			t.Errorf("Restore at %d: %v", floor, err)
		}
	}
}
