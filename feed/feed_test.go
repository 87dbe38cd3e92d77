package feed

import (
	"reflect"
	"slices"
	"testing"

	"tidings/api"
	"tidings/store"
	"tidings/wire"
)

func entry(n int) api.Entry {
	e := api.Entry{Row: api.Row{Width: 1}, Weight: 1}
	e.Row.Cells[0] = api.Value{Kind: api.Int, Int: int64(n)}
	return e
}

// changeOf: the change of a time.
func changeOf(time int) []api.Entry { return []api.Entry{entry(-time), entry(0), entry(time)} }

// published: a store of so many changes, all of which last.
func published(t *testing.T, n int) *store.Store {
	t.Helper()
	s, _, err := store.Open([2]string{})
	for time := 1; time <= n && err == nil; time++ {
		_, err = s.Publish(changeOf(time))
	}
	if err != nil {
		t.Fatal(err)
	}
	s.Sync()
	return s
}

// tells: what a mirror is told that asks at a time.
func tells(t *testing.T, s *store.Store, time int) []wire.Message {
	t.Helper()
	var told []wire.Message
	for _, data := range Answer(s, wire.Write(wire.Message{Kind: wire.Ask, Time: time})) {
		m, err := wire.Read(data)
		if err != nil {
			t.Fatalf("asked at %d: %q: %v", time, data, err)
		}
		told = append(told, m)
	}
	return told
}

// wantChanges: a mirror that asks at a time is told the changes up to another.
func wantChanges(t *testing.T, s *store.Store, time, last int) {
	t.Helper()
	var want []wire.Message
	for k := time + 1; k <= last; k++ {
		want = append(want, wire.Message{Kind: wire.Change, Time: k, List: changeOf(k)})
	}
	if got := tells(t, s, time); !reflect.DeepEqual(got, want) {
		t.Fatalf("asked at %d: %+v, want %+v", time, got, want)
	}
}

func TestChangesThatLast(t *testing.T) {
	s := published(t, 0)
	wantChanges(t, s, 0, 0)
	s.Publish(changeOf(1))
	wantChanges(t, s, 0, 0)
	s = published(t, 30)
	s.Publish(changeOf(31))
	for time := range 40 {
		wantChanges(t, s, time, max(time, min(time+8, 30)))
	}
	wantChanges(t, s, 1000, 1000)
	s.Sync()
	wantChanges(t, s, 30, 31)
	wantChanges(t, s, 23, 31)
}

func TestViewWhereChangesAreForgotten(t *testing.T) {
	for _, floor := range []int{1, 7, 8, 9, 30} {
		s := published(t, 30)
		if _, err := s.Compact(floor); err != nil {
			t.Fatal(err)
		}
		view, _ := s.View(floor)
		for time := range floor {
			var rows []api.Entry
			for place, m := range tells(t, s, time) {
				if m.Kind != wire.Piece || m.Time != floor || m.Place != place || m.Count != (len(view)+15)/16 {
					t.Fatalf("asked at %d below the floor %d: %+v", time, floor, m)
				}
				rows = append(rows, m.List...)
			}
			if !slices.Equal(rows, view) {
				t.Fatalf("asked at %d below the floor %d: %v, want %v", time, floor, rows, view)
			}
		}
		wantChanges(t, s, floor, min(floor+8, 30))
	}
}

func TestPiecesOfView(t *testing.T) {
	for rows, want := range map[int]int{0: 1, 1: 1, 15: 1, 16: 1, 17: 2, 32: 2, 112: 7, 113: 8, 128: 8} {
		s := published(t, 0)
		for i := range rows {
			s.Publish([]api.Entry{entry(i)})
		}
		s.Publish(nil)
		s.Sync()
		if _, err := s.Compact(rows + 1); err != nil {
			t.Fatal(err)
		}
		if got := tells(t, s, 0); len(got) != want {
			t.Errorf("%d rows: %d pieces, want %d", rows, len(got), want)
		}
	}
}

func TestOnlyAsksAreAnswered(t *testing.T) {
	s := published(t, 3)
	for _, data := range []string{
		"",
		"asked",
		wire.Write(wire.Message{Kind: wire.Change, Time: 1}),
		wire.Write(wire.Message{Kind: wire.Piece, Time: 1, Count: 1}),
		wire.Write(wire.Message{Kind: wire.Ask})[1:],
		wire.Write(wire.Message{Kind: wire.Ask}) + "\x00",
		wire.Write(wire.Message{Kind: wire.Ask, Time: 1001}),
	} {
		if got := Answer(s, data); got != nil {
			t.Errorf("%q is answered by %q", data, got)
		}
	}
}
