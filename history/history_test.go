package history

import (
	"errors"
	"math"
	"slices"
	"testing"

	"tidings/api"
	"tidings/fault"
)

func entry(weight, n int64) api.Entry {
	e := api.Entry{Row: api.Row{Width: 1}, Weight: weight}
	e.Row.Cells[0] = api.Value{Kind: api.Int, Int: n}
	return e
}

// TestViewsAcrossMarks: each view is the same, whether a mark lies at its time, right ahead of it or right behind it.
func TestViewsAcrossMarks(t *testing.T) {
	h := New()
	for time := range 5*step + 2 {
		for back := range time + 1 {
			l, err := h.View(back)
			want := []api.Entry{entry(int64(back), 1), entry(1, int64(back)+1)}
			switch back {
			case 0:
				want = nil
			case 1:
				want = []api.Entry{entry(1, 1), entry(1, 2)}
			}
			if err != nil || !slices.Equal(l, want) {
				t.Fatalf("behind %d changes: View(%d) = %v, %v, want %v", time, back, l, err, want)
			}
		}
		change := []api.Entry{entry(1, int64(time)+2), entry(1, 1)}
		if time > 0 {
			change = append(change, entry(-1, int64(time)+1))
		}
		if err := h.Publish(change); err != nil {
			t.Fatal(err)
		}
	}
}

func TestErrorsNameThePlace(t *testing.T) {
	h := New()
	heavy := []api.Entry{entry(math.MaxInt64, 1)}
	if err := h.Publish(heavy); err != nil {
		t.Fatal(err)
	}
	_, late := h.View(2)
	_, early := h.View(-1)
	for _, c := range []struct {
		err  error
		want string
		n    api.Errno
	}{
		{h.Publish([]api.Entry{entry(1, 1), {}}), "change 2: entry 1: width 0: no value", api.ErrValue},
		{h.Publish(slices.Repeat(heavy, 33)), "change 2: entry 32: too many entries", api.ErrMany},
		{h.Publish(slices.Repeat(heavy, 2)), "change 2: row 0: a weight that 64 bits do not hold", api.ErrWeight},
		{h.Publish([]api.Entry{entry(1, 0), entry(1, 1)}), "change 2: row 1: a weight that 64 bits do not hold", api.ErrWeight},
		{late, "time 2: a time that is not kept", api.ErrTime},
		{early, "time -1: a time that is not kept", api.ErrTime},
	} {
		if c.err == nil || c.err.Error() != c.want || !errors.Is(c.err, fault.Number(c.n)) {
			t.Errorf("%v, want %s", c.err, c.want)
		}
	}
	if h.Now() != 1 || h.Floor() != 0 {
		t.Errorf("from %d to %d", h.Floor(), h.Now())
	}
}

func TestRoomNamesThePlace(t *testing.T) {
	h := New()
	for time := range api.MaxRows / api.MaxEntries {
		var change []api.Entry
		for i := range api.MaxEntries {
			change = append(change, entry(1, int64(time*api.MaxEntries+i)))
		}
		if err := h.Publish(change); err != nil {
			t.Fatal(err)
		}
	}
	if err := h.Publish([]api.Entry{entry(1, -1)}); err == nil || err.Error() != "change 5: row 128: no more room" {
		t.Errorf("a row too many: %v", err)
	}
	for h.Now() < api.MaxTime {
		if err := h.Publish(nil); err != nil {
			t.Fatal(err)
		}
	}
	if err := h.Publish(nil); err == nil || err.Error() != "change 1001: no more room" {
		t.Errorf("a change too many: %v", err)
	}
}
