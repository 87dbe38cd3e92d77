package tidings_test

import (
	"math/rand"
	"slices"
	"strings"
	"sync"
	"testing"

	"tidings/api"
	"tidings/tidings"
)

// opened: a source of two empty files.
func opened(t *testing.T) *tidings.Source {
	t.Helper()
	s, acts, e := tidings.Open("", "")
	if s == nil || e != api.OK || len(acts) > api.MaxActs {
		t.Fatalf("P7: Open of two empty files: %v, %d acts, %d", s, len(acts), e)
	}
	return s
}

// publish: a Publish that must be OK.
func publish(t *testing.T, s *tidings.Source, l ...api.Entry) {
	t.Helper()
	if acts, e := s.Publish(l); e != api.OK || len(acts) > api.MaxActs {
		t.Fatalf("P8: Publish(%v) = %d acts, %d", l, len(acts), e)
	}
}

// refuses: a Publish that must answer this error, and change nothing.
func refuses(t *testing.T, s *tidings.Source, want api.Errno, l ...api.Entry) {
	t.Helper()
	span := s.Span()
	view, _ := s.View(span.Now)
	if acts, e := s.Publish(l); e != want || len(acts) != 0 {
		t.Fatalf("P8: Publish of %d entries = %d acts, %d, want %d", len(l), len(acts), e, want)
	}
	if s.Span() != span {
		t.Fatalf("P1: Span() = %+v behind an error, %+v ahead of it", s.Span(), span)
	}
	shows(t, s, span.Now, view...)
}

// shows: the view at a time.
func shows(t *testing.T, s *tidings.Source, time int, want ...api.Entry) {
	t.Helper()
	if l, e := s.View(time); e != api.OK || !slices.Equal(l, want) {
		t.Fatalf("P8: View(%d) = %v, %d, want %v", time, l, e, want)
	}
}

// hasNot: a time whose view is not there.
func hasNot(t *testing.T, s *tidings.Source, time int) {
	t.Helper()
	if l, e := s.View(time); e != api.ErrTime || len(l) != 0 {
		t.Fatalf("P8: View(%d) = %v, %d", time, l, e)
	}
}

// rows: entries of so many rows that follow one another.
func rows(first, n int) []api.Entry {
	var l []api.Entry
	for i := range n {
		l = append(l, entry(1, number(int64(first+i))))
	}
	return l
}

// full: a source whose view has 128 rows.
func full(t *testing.T) *tidings.Source {
	t.Helper()
	s := opened(t)
	for i := range 4 {
		publish(t, s, rows(32*i, 32)...)
	}
	return s
}

func TestOpenOfEmptyFiles(t *testing.T) {
	s := opened(t)
	if s.Span() != (api.Span{}) {
		t.Errorf("P8: Span() = %+v", s.Span())
	}
	shows(t, s, 0)
	hasNot(t, s, 1)
	hasNot(t, s, -1)
}

func TestOpenOfAnyFiles(t *testing.T) {
	random := rand.New(rand.NewSource(13))
	files := []string{"", "\x00", "x", strings.Repeat("\xff", 100), strings.Repeat("\x00", 1<<16)}
	for range 200 {
		b := make([]byte, random.Intn(60))
		random.Read(b)
		files = append(files, string(b))
	}
	for _, a := range files {
		for _, b := range files {
			s, acts, e := tidings.Open(a, b)
			if e == api.OK && s != nil && len(acts) <= api.MaxActs {
				continue
			}
			if e != api.ErrFiles || s != nil || len(acts) != 0 {
				t.Fatalf("P7: Open(%q, %q) = %v, %d acts, %d", a, b, s, len(acts), e)
			}
		}
	}
}

func TestExampleOfDocument(t *testing.T) {
	one, two := number(1), number(2)
	s := opened(t)
	publish(t, s, entry(1, one))
	if want := (api.Span{Now: 1}); s.Span() != want {
		t.Errorf("P8: Span() = %+v", s.Span())
	}
	shows(t, s, 1, entry(1, one))
	hasNot(t, s, 2)
	hasNot(t, s, -1)
	publish(t, s, entry(-1, one), entry(5, two))
	shows(t, s, 0)
	shows(t, s, 1, entry(1, one))
	shows(t, s, 2, entry(5, two))
	if want := (api.Span{Now: 2}); s.Span() != want {
		t.Errorf("P8: Span() = %+v", s.Span())
	}
}

func TestTimesThatAreNotThere(t *testing.T) {
	s := opened(t)
	publish(t, s, entry(1, number(1)))
	for _, time := range []int{least, -1000, -1, 2, 17, 1000, most} {
		hasNot(t, s, time)
	}
}

func TestChangesAreNormal(t *testing.T) {
	one, two := number(1), number(2)
	s := opened(t)
	publish(t, s)
	publish(t, s, list()...)
	publish(t, s, entry(0, one))
	publish(t, s, entry(3, one), entry(-3, one))
	for time := range 5 {
		shows(t, s, time)
	}
	publish(t, s, entry(1, two), entry(most, one), entry(1, one), entry(-2, one))
	shows(t, s, 5, entry(most-1, one), entry(1, two))
	publish(t, s)
	shows(t, s, 6, entry(most-1, one), entry(1, two))
	if want := (api.Span{Now: 6}); s.Span() != want {
		t.Errorf("P8: Span() = %+v, want %+v", s.Span(), want)
	}
}

func TestEntriesOfChange(t *testing.T) {
	s := opened(t)
	publish(t, s, rows(0, 32)...)
	refuses(t, s, api.ErrMany, rows(0, 33)...)
	refuses(t, s, api.ErrMany, slices.Repeat(list(entry(0, number(1))), 33)...)
	refuses(t, s, api.ErrMany, rows(0, 5000)...)
	publish(t, s, slices.Repeat(list(entry(1, number(0))), 32)...)
	shows(t, s, 2, append(list(entry(33, number(0))), rows(1, 31)...)...)
}

func TestWeightsOfView(t *testing.T) {
	one, two := number(1), number(2)
	s := opened(t)
	publish(t, s, entry(most, one), entry(least, two))
	refuses(t, s, api.ErrWeight, entry(1, one))
	refuses(t, s, api.ErrWeight, entry(-1, two))
	refuses(t, s, api.ErrWeight, entry(most, one))
	refuses(t, s, api.ErrWeight, entry(least, two))
	refuses(t, s, api.ErrWeight, entry(-1, one), entry(-1, two))
	shows(t, s, 1, entry(most, one), entry(least, two))
	publish(t, s, entry(least, one), entry(most, two))
	shows(t, s, 2, entry(-1, one), entry(-1, two))
	publish(t, s, entry(least+1, one), entry(1, two))
	shows(t, s, 3, entry(least, one))
	// Each view fits, though the changes behind time 0 that have one sign would not.
	publish(t, s, entry(most, one))
	publish(t, s, entry(most, one))
	shows(t, s, 5, entry(most-1, one))
	shows(t, s, 1, entry(most, one), entry(least, two))
}

func TestRowsOfView(t *testing.T) {
	s := full(t)
	refuses(t, s, api.ErrFull, entry(1, number(128)))
	refuses(t, s, api.ErrFull, entry(-1, number(0)), entry(1, number(-1)), entry(1, text("x")))
	publish(t, s, entry(-1, number(0)), entry(1, number(128)))
	shows(t, s, 5, rows(1, 128)...)
	shows(t, s, 4, rows(0, 128)...)
	publish(t, s, entry(1, number(1)))
	publish(t, s, entry(-2, number(1)))
	publish(t, s, entry(-7, text("x")))
	refuses(t, s, api.ErrFull, entry(1, text("y")))
}

func TestThousandChanges(t *testing.T) {
	s := opened(t)
	for i := range 1000 {
		publish(t, s, entry(1, number(0)), entry(int64(i%3-1), number(int64(i%100+1))))
	}
	if want := (api.Span{Now: 1000}); s.Span() != want {
		t.Fatalf("P8: Span() = %+v", s.Span())
	}
	refuses(t, s, api.ErrFull)
	refuses(t, s, api.ErrFull, entry(1, number(0)))
	hasNot(t, s, 1001)
	for _, time := range []int{1, 2, 499, 999, 1000} {
		l, e := s.View(time)
		if e != api.OK || len(l) == 0 || l[0] != entry(int64(time), number(0)) {
			t.Errorf("P8: View(%d) = %v, %d", time, l, e)
		}
		wantInOrder(t, l)
	}
	shows(t, s, 0)
}

// TestWhichErrorIsFirst: P1: where several errors apply, the one that P8 names first.
func TestWhichErrorIsFirst(t *testing.T) {
	one := number(1)
	none := entry(1, truth(2))
	s := opened(t)
	publish(t, s, entry(most, one))
	heavy := list(entry(most, number(2)), entry(1, number(2)))
	refuses(t, s, api.ErrValue, append(rows(0, 40), none)...)
	refuses(t, s, api.ErrValue, append(heavy, none)...)
	refuses(t, s, api.ErrValue, entry(1, one), none)
	refuses(t, s, api.ErrMany, append(rows(0, 32), heavy...)...)
	refuses(t, s, api.ErrMany, append(rows(0, 32), entry(1, one))...)
	refuses(t, s, api.ErrWeight, heavy...)
	for _, l := range noRows() {
		refuses(t, s, api.ErrValue, append(list(entry(1, one)), l...)...)
	}
	wide := full(t)
	publish(t, wide, entry(most-1, number(5)))
	refuses(t, wide, api.ErrWeight, entry(1, number(-1)), entry(1, number(5)))
	refuses(t, wide, api.ErrFull, entry(1, number(-1)), entry(-1, number(5)))
	for wide.Span().Now < api.MaxTime {
		publish(t, wide)
	}
	refuses(t, wide, api.ErrValue, none)
	refuses(t, wide, api.ErrMany, rows(0, 33)...)
	refuses(t, wide, api.ErrWeight, heavy...)
	refuses(t, wide, api.ErrFull, entry(1, number(5)))
}

// modelPublish: what Publish answers where a view is shown, and the view behind it.
func modelPublish(view, l []api.Entry) ([]api.Entry, api.Errno) {
	change, fits := modelSum(l, nil)
	if len(l) > api.MaxEntries {
		return view, api.ErrMany
	}
	if !fits {
		return view, api.ErrWeight
	}
	next, fits := modelSum(slices.Concat(view, change), nil)
	if !fits {
		return view, api.ErrWeight
	}
	if len(next) > api.MaxRows {
		return view, api.ErrFull
	}
	return next, api.OK
}

func TestSourceAgainstModel(t *testing.T) {
	random := rand.New(rand.NewSource(17))
	for range 12 {
		s := opened(t)
		views := [][]api.Entry{nil}
		for range 120 {
			l := randomList(random, 34)
			now := len(views) - 1
			next, want := modelPublish(views[now], l)
			if acts, e := s.Publish(l); e != want || e != api.OK && len(acts) != 0 {
				t.Fatalf("P8: Publish(%v) = %d acts, %d, want %d", l, len(acts), e, want)
			}
			if want == api.OK {
				views = append(views, next)
			}
			time := random.Intn(len(views))
			shows(t, s, time, views[time]...)
		}
		for time, view := range views {
			shows(t, s, time, view...)
		}
		hasNot(t, s, len(views))
		if s.Span().Now != len(views)-1 || s.Span().Floor != 0 {
			t.Fatalf("P8: Span() = %+v behind %d changes", s.Span(), len(views)-1)
		}
	}
}

// TestSourceKeepsNothingHandedIn: P2: neither the list nor its spare room is written into, nor is it kept, nor the bytes of its texts.
func TestSourceKeepsNothingHandedIn(t *testing.T) {
	s := opened(t)
	room := make([]api.Entry, 8)
	for i := range room {
		room[i] = entry(int64(i+1), number(int64(9-i)), text("text"))
	}
	was := slices.Clone(room)
	publish(t, s, room[:5]...)
	if !slices.Equal(room, was) {
		t.Errorf("P2: Publish wrote into what was handed in")
	}
	want, _ := modelSum(was[:5], nil)
	for i := range room {
		room[i] = entry(77, truth(1))
	}
	shows(t, s, 1, want...)
	handed := strings.Repeat("x", 16)
	publish(t, s, entry(1, text(handed)))
	l, _ := s.View(2)
	if last := l[len(l)-1].Row.Cells[0].Text; last != handed || liesIn(last, handed) {
		t.Errorf("P2: the text %q lies in what was handed in", last)
	}
}

// TestViewsShareNoMemory: P2: a caller may write into a view, its spare room too.
func TestViewsShareNoMemory(t *testing.T) {
	s := opened(t)
	for i := range 40 {
		publish(t, s, entry(1, number(int64(i))), entry(1, text("x")))
	}
	var want [][]api.Entry
	for time := range 41 {
		l, _ := s.View(time)
		want = append(want, slices.Clone(l))
	}
	for time := range 41 {
		l, _ := s.View(time)
		l = l[:cap(l)]
		for i := range l {
			l[i] = entry(77, truth(1))
		}
	}
	for time := range 41 {
		shows(t, s, time, want[time]...)
	}
	publish(t, s, entry(-40, text("x")))
	shows(t, s, 41, rows(0, 40)...)
}

// TestSourcesDoNotDisturbOneAnother: P2: sources that are used side by side.
func TestSourcesDoNotDisturbOneAnother(t *testing.T) {
	var calls sync.WaitGroup
	for first := range 8 {
		s := opened(t)
		calls.Go(func() {
			for i := range 32 {
				if _, e := s.Publish(list(entry(1, number(int64(first+i))))); e != api.OK {
					t.Errorf("P8: Publish: %d", e)
				}
				if l, e := s.View(i + 1); e != api.OK || !slices.Equal(l, rows(first, i+1)) {
					t.Errorf("P2: source %d: View(%d) = %v, %d", first, i+1, l, e)
				}
			}
		})
	}
	calls.Wait()
}
