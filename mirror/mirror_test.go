package mirror

import (
	"math"
	"math/rand"
	"slices"
	"testing"

	"tidings/api"
	"tidings/wire"
)

func entry(weight int64, n int) api.Entry {
	e := api.Entry{Row: api.Row{Width: 1}, Weight: weight}
	e.Row.Cells[0] = api.Value{Kind: api.Int, Int: int64(n)}
	return e
}

// viewOf: the view at a time of a history that adds one row a change.
func viewOf(time int) []api.Entry {
	var l []api.Entry
	for n := range time {
		l = append(l, entry(1, n))
	}
	return l
}

func change(time int) string {
	return wire.Write(wire.Message{Kind: wire.Change, Time: time, List: []api.Entry{entry(1, time-1)}})
}

// pieces: those of the view at a time.
func pieces(time int) []string {
	rows := viewOf(time)
	count := (len(rows) + 15) / 16
	var l []string
	for place := range count {
		l = append(l, wire.Write(wire.Message{Kind: wire.Piece, Time: time, Place: place, Count: count, List: rows[16*place : min(16*place+16, len(rows))]}))
	}
	return l
}

func (m *Mirror) takes(l ...string) {
	for _, data := range l {
		m.Handle(data)
	}
}

// wants: what a mirror shows, and how much it keeps for later.
func (m *Mirror) wants(t *testing.T, time, changes, pieces int) {
	t.Helper()
	l, now := m.View()
	if now != time || !slices.Equal(l, viewOf(time)) {
		t.Fatalf("the mirror shows %v, %d, want %v, %d", l, now, viewOf(time), time)
	}
	if len(m.changes) != changes || len(m.pieces) != pieces {
		t.Fatalf("at %d %d changes and %d pieces are kept, want %d and %d", time, len(m.changes), len(m.pieces), changes, pieces)
	}
}

func TestTickAsksAtTheTime(t *testing.T) {
	m := New()
	for time := range 3 {
		if got, want := m.Tick(), wire.Write(wire.Message{Kind: wire.Ask, Time: time}); !slices.Equal(got, []string{want}) {
			t.Errorf("Tick() = %q, want %q", got, want)
		}
		m.Handle(change(time + 1))
	}
}

func TestChangesWaitForTheirTurn(t *testing.T) {
	m := New()
	m.takes(change(3), change(5), change(3), change(2))
	m.wants(t, 0, 3, 0)
	m.takes(change(1))
	m.wants(t, 3, 1, 0)
	m.takes(change(1), change(2), change(3))
	m.wants(t, 3, 1, 0)
	m.takes(change(4))
	m.wants(t, 5, 0, 0)
}

func TestNoMoreIsKeptThanASourceSends(t *testing.T) {
	m := New()
	for time := 1000; time > 1; time-- {
		m.takes(change(time))
	}
	m.wants(t, 0, 7, 0)
	m.takes(change(1))
	m.wants(t, 8, 0, 0)
	m.takes(change(16), change(17))
	m.wants(t, 8, 1, 0)
}

func TestPiecesWaitForOneAnother(t *testing.T) {
	m := New()
	old, late := pieces(40), pieces(50)
	m.takes(old[0], old[2], old[0])
	m.wants(t, 0, 0, 2)
	m.takes(late[3])
	m.wants(t, 0, 0, 1)
	m.takes(old...)
	m.wants(t, 0, 0, 1)
	m.takes(late[0], late[1])
	m.wants(t, 0, 0, 3)
	m.takes(late[2])
	m.wants(t, 50, 0, 0)
	m.takes(late...)
	m.takes(old...)
	m.wants(t, 50, 0, 0)
}

// TestChangesOvertakePieces: the view that was gathered is not shown any more when its time has gone by.
func TestChangesOvertakePieces(t *testing.T) {
	m := New()
	m.takes(pieces(10)...)
	late := pieces(17)
	m.takes(late[0])
	m.wants(t, 10, 0, 1)
	for time := 11; time <= 16; time++ {
		m.takes(change(time))
		m.wants(t, time, 0, 1)
	}
	m.takes(change(18), change(17))
	m.wants(t, 18, 0, 0)
	m.takes(late...)
	m.takes(pieces(18)[0])
	m.wants(t, 18, 0, 0)
}

// TestViewOvertakesChanges: those behind it are taken at once, the others are let go.
func TestViewOvertakesChanges(t *testing.T) {
	m := New()
	m.takes(change(2), change(4), change(6), change(7))
	m.wants(t, 0, 4, 0)
	m.takes(pieces(3)...)
	m.wants(t, 4, 2, 0)
	m.takes(pieces(6)...)
	m.wants(t, 7, 0, 0)
}

func TestEmptyViewIsTaken(t *testing.T) {
	m := New()
	m.takes(change(1), wire.Write(wire.Message{Kind: wire.Piece, Time: 9, Count: 1}))
	if l, time := m.View(); len(l) != 0 || time != 9 {
		t.Errorf("the mirror shows %v, %d", l, time)
	}
}

// TestWhatDoesNotFitIsLetGo: what no source of this network has sent, though it is written rightly.
func TestWhatDoesNotFitIsLetGo(t *testing.T) {
	send := func(m wire.Message) string { return wire.Write(m) }
	heavy := []api.Entry{entry(math.MaxInt64, 0)}
	m := New()
	m.takes(pieces(127)...)
	m.takes(change(130), change(129), send(wire.Message{Kind: wire.Change, Time: 128, List: heavy}))
	m.wants(t, 127, 2, 0)
	m.takes(send(wire.Message{Kind: wire.Change, Time: 128, List: []api.Entry{entry(1, 200), entry(1, 201)}}))
	m.wants(t, 127, 2, 0)
	m.takes(change(128))
	m.wants(t, 128, 1, 0)
	m = New()
	m.takes(send(wire.Message{Kind: wire.Piece, Time: 20, Place: 0, Count: 2, List: heavy}))
	m.takes(send(wire.Message{Kind: wire.Piece, Time: 20, Place: 1, Count: 2, List: heavy}))
	m.wants(t, 0, 0, 2)
	m.takes(pieces(20)...)
	m.wants(t, 20, 0, 0)
	m.takes(send(wire.Message{Kind: wire.Ask, Time: 30}), "", "spoiled")
	m.wants(t, 20, 0, 0)
}

// TestMixedCounts: no source tells of one view in this many pieces and in that; still it ends, and the view is in order.
func TestMixedCounts(t *testing.T) {
	random := rand.New(rand.NewSource(37))
	for range 300 {
		m := New()
		for range 30 {
			count := 1 + random.Intn(api.MaxSent)
			list := []api.Entry{entry(1, random.Intn(9))}
			m.takes(wire.Write(wire.Message{Kind: wire.Piece, Time: random.Intn(5), Place: random.Intn(count), Count: count, List: list}))
			l, _ := m.View()
			if !slices.IsSortedFunc(l, func(a, b api.Entry) int { return int(a.Row.Cells[0].Int - b.Row.Cells[0].Int) }) {
				t.Fatalf("the mirror shows %v", l)
			}
		}
	}
}
