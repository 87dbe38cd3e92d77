package store

import (
	"errors"
	"slices"
	"strings"
	"testing"

	"tidings/api"
	"tidings/fault"
)

// none is the file of a store without changes.
const none = "\x00\x00" + "\x00\x00" + "\x01\x00\x00"

// The lists 1*1 and 2*1, as blocks.
const (
	one = "\x05\x00\x01\x11\x03\x02\x02"
	two = "\x05\x00\x01\x11\x03\x04\x02"
)

func entry(n int64) api.Entry {
	e := api.Entry{Row: api.Row{Width: 1}, Weight: 1}
	e.Row.Cells[0] = api.Value{Kind: api.Int, Int: n}
	return e
}

func appends(file int, data string) api.Act {
	return api.Act{Kind: api.Append, File: file, Data: data}
}

func syncs(file int) api.Act { return api.Act{Kind: api.Sync, File: file} }

func erases(file int) api.Act { return api.Act{Kind: api.Erase, File: file} }

func wantActs(t *testing.T, got []api.Act, err error, want ...api.Act) {
	t.Helper()
	if err != nil || !slices.Equal(got, want) {
		t.Fatalf("acts %+v, %v, want %+v", got, err, want)
	}
}

func TestActsOfCalls(t *testing.T) {
	s, acts, err := Open([2]string{})
	wantActs(t, acts, err, appends(0, none), syncs(0))
	wantActs(t, s.Sync(), nil)
	acts, err = s.Publish([]api.Entry{entry(1)})
	wantActs(t, acts, err, appends(0, one))
	acts, err = s.Compact(0)
	wantActs(t, acts, err, syncs(0))
	acts, err = s.Compact(0)
	wantActs(t, acts, err)
	acts, err = s.Publish([]api.Entry{entry(2)})
	wantActs(t, acts, err, appends(0, two))
	acts, err = s.Compact(1)
	wantActs(t, acts, err, appends(1, "\x01\x00\x01\x00"+one+two), syncs(1), erases(0))
	acts, err = s.Publish(nil)
	wantActs(t, acts, err, appends(1, "\x01\x00\x00"))
	wantActs(t, s.Sync(), nil, syncs(1))
	acts, err = s.Compact(3)
	wantActs(t, acts, err, appends(0, "\x03\x00\x00\x00\x08\x00\x02\x10\x03\x02\x02\x03\x04\x02"), syncs(0), erases(1))
}

// TestFilesAfterCrashes: which file is taken, and what is done to the other one.
func TestFilesAfterCrashes(t *testing.T) {
	old := none + one + two
	later := "\x01\x00\x01\x00" + one + two
	written := "\x00\x00\x02\x00" + none[4:] + one + two
	for _, c := range []struct {
		files [2]string
		span  api.Span
		acts  []api.Act
	}{
		{[2]string{none[:3], ""}, api.Span{}, []api.Act{appends(0, none[3:]), syncs(0)}},
		{[2]string{none, ""}, api.Span{}, []api.Act{syncs(0), erases(1)}},
		{[2]string{old, ""}, api.Span{Lasting: 2, Now: 2}, []api.Act{syncs(0), erases(1)}},
		{[2]string{old, later[:len(later)-1]}, api.Span{Lasting: 2, Now: 2}, []api.Act{syncs(0), erases(1)}},
		{[2]string{old, later}, api.Span{Floor: 1, Lasting: 2, Now: 2}, []api.Act{syncs(1), erases(0)}},
		{[2]string{later, old}, api.Span{Floor: 1, Lasting: 2, Now: 2}, []api.Act{syncs(0), erases(1)}},
		{[2]string{old + "\x05", later}, api.Span{Floor: 1, Lasting: 2, Now: 2}, []api.Act{syncs(1), erases(0)}},
		{[2]string{"", old + "\x05"}, api.Span{Lasting: 2, Now: 2}, []api.Act{erases(0), appends(0, written), syncs(0), erases(1)}},
		{[2]string{old + "\x05\x00\x01", written[:9]}, api.Span{Lasting: 2, Now: 2}, []api.Act{erases(1), appends(1, written), syncs(1), erases(0)}},
		{[2]string{old + "\x05", written}, api.Span{Lasting: 2, Now: 2}, []api.Act{syncs(1), erases(0)}},
		{[2]string{written, old + "\x05"}, api.Span{Lasting: 2, Now: 2}, []api.Act{syncs(0), erases(1)}},
	} {
		s, acts, err := Open(c.files)
		wantActs(t, acts, err, c.acts...)
		if s.Span() != c.span {
			t.Errorf("Open(%q): Span() = %+v, want %+v", c.files, s.Span(), c.span)
		}
	}
}

func TestErrorsNameFileAndPlace(t *testing.T) {
	list := "\x00\x00\x00\x00"
	short := "\x43\x00\x21\x10" + strings.Repeat("\x00\x02", 33)[:65]
	full := "\xe8\x03\x00\x00\x01\x00\x00"
	for _, c := range []struct {
		files [2]string
		want  string
	}{
		{[2]string{"x", ""}, "no file is whole"},
		{[2]string{"", none[:3]}, "no file is whole"},
		{[2]string{none[:3], none[:3]}, "no file is whole"},
		{[2]string{list + "\x01\x00\x01", ""}, "file 0: view 0: bytes that no list is written as: the bytes end too early"},
		{[2]string{none, "\x07\x00\x00\x00" + "\x01\x00\x00" + "\x01\x00\x00" + "\x00\x00"}, "file 1: change 9: bytes that no list is written as: the bytes end too early"},
		{[2]string{"", none + "\x02\x00\x00\x00"}, "file 1: change 1: bytes that no list is written as: the list is written as other bytes"},
		{[2]string{full + "\x01\x00\x00", ""}, "file 0: change 1001: no more room"},
		{[2]string{none + strings.Repeat("\x01\x00\x00", 1001), ""}, "file 0: change 1001: no more room"},
		{[2]string{none + short, ""}, "file 0: change 1: bytes that no list is written as: entry 32: the bytes end too early"},
	} {
		s, acts, err := Open(c.files)
		want := "files that no source has left behind: " + c.want
		if s != nil || acts != nil || err == nil || err.Error() != want || !errors.Is(err, fault.Number(api.ErrFiles)) {
			t.Errorf("Open(%q) = %v, %v, %v, want %s", c.files, s, acts, err, want)
		}
	}
}

// TestChangesAreNotLong: a list of a view may have more entries than one of a change.
func TestChangesAreNotLong(t *testing.T) {
	var l []api.Entry
	for i := range int64(33) {
		l = append(l, entry(i))
	}
	if _, err := read("\x02\x00\x00\x00" + block(l)); err != nil {
		t.Errorf("a view of 33 rows: %v", err)
	}
	if _, err := read(none + block(l[:32])); err != nil {
		t.Errorf("a change of 32 entries: %v", err)
	}
	_, err := read(none + block(l))
	if want := "change 1: entry 32: too many entries"; err == nil || err.Error() != want {
		t.Errorf("a change of 33 entries: %v, want %s", err, want)
	}
}

// TestLongFilesAreNotReadOn: a history has 1000 changes; what lies behind one more need not be looked at.
func TestLongFilesAreNotReadOn(t *testing.T) {
	for n, want := range map[int]int{1000: 1000, 1001: 1001, 1 << 20: 1001} {
		l, err := read(none + strings.Repeat("\x01\x00\x00", n))
		if err != nil || len(l.changes) != want {
			t.Errorf("of %d changes %d are read, %v", n, len(l.changes), err)
		}
	}
}

// TestPiecesOfAFile: what is written in one piece is whole only when all of it is there; what is behind it may be torn.
func TestPiecesOfAFile(t *testing.T) {
	file := "\x01\x00\x02\x00" + one + one + two
	for n := range len(file) {
		if _, err := read(file[:n]); !errors.Is(err, errEnd) {
			t.Errorf("the first %d bytes: %v", n, err)
		}
	}
	more := file + one
	for n := len(file); n <= len(more); n++ {
		l, err := read(more[:n])
		whole := n == len(file) || n == len(more)
		if err != nil || l.torn == whole || len(l.changes) != 2+n/len(more) {
			t.Errorf("the first %d bytes: %+v, %v", n, l, err)
		}
	}
}

func TestCompactNamesTheTime(t *testing.T) {
	s, _, _ := Open([2]string{none, ""})
	for _, time := range []int{-1, 1} {
		acts, err := s.Compact(time)
		if acts != nil || !errors.Is(err, fault.Number(api.ErrTime)) || !strings.HasPrefix(err.Error(), "time ") {
			t.Errorf("Compact(%d) = %v, %v", time, acts, err)
		}
	}
}
