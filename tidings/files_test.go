package tidings_test

import (
	"iter"
	"math/rand"
	"slices"
	"strings"
	"testing"

	"tidings/api"
	"tidings/tidings"
)

// disk: two files, and how many of their first bytes are lasting.
type disk struct {
	file    [2]string
	lasting [2]int
}

// play: acts, one after the other; each must be one.
func (d *disk) play(t *testing.T, acts []api.Act) {
	t.Helper()
	if len(acts) > api.MaxActs {
		t.Fatalf("P10: %d acts", len(acts))
	}
	for _, a := range acts {
		if a.File != 0 && a.File != 1 || a.Kind != api.Append && a.Data != "" {
			t.Fatalf("the act %+v", a)
		}
		switch a.Kind {
		case api.Append:
			d.file[a.File] += a.Data
		case api.Sync:
			d.lasting[a.File] = len(d.file[a.File])
		case api.Erase:
			d.file[a.File], d.lasting[a.File] = "", 0
		default:
			t.Fatalf("the act %+v", a)
		}
	}
}

// keep: what a crash leaves that keeps so many bytes of each file.
func (d disk) keep(n [2]int) disk {
	for i := range n {
		d.file[i], d.lasting[i] = d.file[i][:n[i]], n[i]
	}
	return d
}

// crashes: everything that a crash may leave.
func (d disk) crashes() iter.Seq[disk] {
	return func(yield func(disk) bool) {
		for a := d.lasting[0]; a <= len(d.file[0]); a++ {
			for b := d.lasting[1]; b <= len(d.file[1]); b++ {
				if !yield(d.keep([2]int{a, b})) {
					return
				}
			}
		}
	}
}

// drawnCrash: one of them.
func (d disk) drawnCrash(random *rand.Rand) disk {
	var n [2]int
	for i := range n {
		n[i] = d.lasting[i] + random.Intn(len(d.file[i])-d.lasting[i]+1)
	}
	return d.keep(n)
}

// open: an Open that must be OK, and its acts.
func (d *disk) open(t *testing.T) (*tidings.Source, []api.Act) {
	t.Helper()
	s, acts, e := tidings.Open(d.file[0], d.file[1])
	if s == nil || e != api.OK || len(acts) > api.MaxActs {
		t.Fatalf("P7: Open(%q, %q) = %v, %d acts, %d", d.file[0], d.file[1], s, len(acts), e)
	}
	return s, acts
}

// opened: an Open that must be OK; its acts are played.
func (d *disk) opened(t *testing.T) *tidings.Source {
	t.Helper()
	s, acts := d.open(t)
	d.play(t, acts)
	return s
}

// publish: a Publish that must be OK; its acts are played.
func (d *disk) publish(t *testing.T, s *tidings.Source, l ...api.Entry) {
	t.Helper()
	acts, e := s.Publish(l)
	if e != api.OK {
		t.Fatalf("P8: Publish(%v) = %d", l, e)
	}
	d.play(t, acts)
}

// compact: a Compact that must be OK; its acts are played.
func (d *disk) compact(t *testing.T, s *tidings.Source, time int) {
	t.Helper()
	acts, e := s.Compact(time)
	if e != api.OK {
		t.Fatalf("P9: Compact(%d) = %d", time, e)
	}
	d.play(t, acts)
}

// least: the crash that leaves no more than it must.
func (d *disk) least() disk { return d.keep(d.lasting) }

// compactRefuses: a Compact that must answer ErrTime, and change nothing.
func compactRefuses(t *testing.T, s *tidings.Source, time int) {
	t.Helper()
	was := s.Span()
	acts, e := s.Compact(time)
	if e != api.ErrTime || len(acts) != 0 || s.Span() != was {
		t.Fatalf("P9: Compact(%d) = %d acts, %d; Span() %+v, ahead of it %+v", time, len(acts), e, s.Span(), was)
	}
}

func spans(t *testing.T, s *tidings.Source, floor, lasting, now int) {
	t.Helper()
	if want := (api.Span{Floor: floor, Lasting: lasting, Now: now}); s.Span() != want {
		t.Fatalf("P8, P9: Span() = %+v, want %+v", s.Span(), want)
	}
}

// showsAll: the views from the floor up to the last change, and no others.
func showsAll(t *testing.T, s *tidings.Source, views [][]api.Entry) {
	t.Helper()
	span := s.Span()
	for time := span.Floor; time <= span.Now; time++ {
		shows(t, s, time, views[time]...)
	}
	hasNot(t, s, span.Floor-1)
	hasNot(t, s, span.Now+1)
}

func TestExampleWithFiles(t *testing.T) {
	one, two := number(1), number(2)
	d := &disk{}
	s := d.opened(t)
	d.publish(t, s, entry(1, one))
	spans(t, s, 0, 0, 1)
	compactRefuses(t, s, 1)
	d.play(t, s.Sync())
	spans(t, s, 0, 1, 1)
	d.publish(t, s, entry(-1, one), entry(5, two))
	spans(t, s, 0, 1, 2)
	d.compact(t, s, 1)
	spans(t, s, 1, 2, 2)
	hasNot(t, s, 0)
	shows(t, s, 1, entry(1, one))
	shows(t, s, 2, entry(5, two))
	for _, left := range []disk{*d, d.least()} {
		again := left.opened(t)
		spans(t, again, 1, 2, 2)
		showsAll(t, again, [][]api.Entry{nil, list(entry(1, one)), list(entry(5, two))})
	}
}

// TestLastingIsCountedFromTheCallOn: P9: ahead of the playing of its acts.
func TestLastingIsCountedFromTheCallOn(t *testing.T) {
	d := &disk{}
	s := d.opened(t)
	d.publish(t, s, entry(1, number(1)))
	d.publish(t, s, entry(1, number(2)))
	spans(t, s, 0, 0, 2)
	acts := s.Sync()
	spans(t, s, 0, 2, 2)
	d.play(t, acts)
	d.publish(t, s)
	spans(t, s, 0, 2, 3)
	acts, _ = s.Compact(0)
	spans(t, s, 0, 3, 3)
	d.play(t, acts)
	d.publish(t, s)
	acts, _ = s.Compact(2)
	spans(t, s, 2, 4, 4)
	d.play(t, acts)
	d.publish(t, s)
	s, _ = d.open(t)
	spans(t, s, 2, 5, 5)
}

func TestNothingToSync(t *testing.T) {
	d := &disk{}
	s := d.opened(t)
	d.play(t, s.Sync())
	d.play(t, s.Sync())
	spans(t, s, 0, 0, 0)
	d.publish(t, s, entry(1, number(1)))
	d.play(t, s.Sync())
	d.play(t, s.Sync())
	spans(t, s, 0, 1, 1)
	left := d.least()
	s = left.opened(t)
	left.play(t, s.Sync())
	spans(t, s, 0, 1, 1)
	shows(t, s, 1, entry(1, number(1)))
}

func TestEdgesOfCompact(t *testing.T) {
	d := &disk{}
	s := d.opened(t)
	views := [][]api.Entry{nil}
	d.compact(t, s, 0)
	spans(t, s, 0, 0, 0)
	for i := range 40 {
		d.publish(t, s, entry(1, number(int64(i))))
		views = append(views, rows(0, i+1))
	}
	compactRefuses(t, s, 1)
	d.play(t, s.Sync())
	d.publish(t, s)
	views = append(views, rows(0, 40))
	for _, time := range []int{least, -1, 41, 42, 1000, most} {
		compactRefuses(t, s, time)
	}
	for _, floor := range []int{0, 7, 7, 16, 40, 41} {
		d.compact(t, s, floor)
		spans(t, s, floor, 41, 41)
		showsAll(t, s, views)
		for _, time := range []int{least, -1, floor - 1, 42, most} {
			compactRefuses(t, s, time)
		}
		for _, left := range []disk{*d, d.least()} {
			again := left.opened(t)
			spans(t, again, floor, 41, 41)
			showsAll(t, again, views)
		}
	}
	d.publish(t, s, entry(-1, number(0)))
	spans(t, s, 41, 41, 42)
	compactRefuses(t, s, 42)
	shows(t, s, 42, rows(1, 39)...)
}

// TestCompactAtTheFloorMakesAllLast: P9: also where there is nothing to forget.
func TestCompactAtTheFloorMakesAllLast(t *testing.T) {
	d := &disk{}
	s := d.opened(t)
	d.publish(t, s, entry(1, number(1)))
	d.compact(t, s, 0)
	spans(t, s, 0, 1, 1)
	left := d.least()
	spans(t, left.opened(t), 0, 1, 1)
	d.compact(t, s, 1)
	d.publish(t, s, entry(1, number(2)))
	d.compact(t, s, 1)
	spans(t, s, 1, 2, 2)
	left = d.least()
	again := left.opened(t)
	spans(t, again, 1, 2, 2)
	shows(t, again, 2, rows(1, 2)...)
}

// TestErrorsLeaveTheFiles: P1, P10: what is refused is not in the files, and what comes behind it is.
func TestErrorsLeaveTheFiles(t *testing.T) {
	d := &disk{}
	s := d.opened(t)
	d.publish(t, s, entry(most, number(1)))
	refuses(t, s, api.ErrValue, entry(1, truth(2)))
	refuses(t, s, api.ErrMany, rows(0, 33)...)
	refuses(t, s, api.ErrWeight, entry(1, number(1)))
	compactRefuses(t, s, 1)
	compactRefuses(t, s, -1)
	d.publish(t, s, entry(1, number(2)))
	again := d.opened(t)
	spans(t, again, 0, 2, 2)
	showsAll(t, again, [][]api.Entry{nil, list(entry(most, number(1))), list(entry(most, number(1)), entry(1, number(2)))})
	refuses(t, again, api.ErrWeight, entry(1, number(1)))
}

func TestThousandChangesInFiles(t *testing.T) {
	d := &disk{}
	s := d.opened(t)
	views := [][]api.Entry{nil}
	for i := range 1000 {
		l := list(entry(1, number(0)), entry(int64(i%3-1), number(int64(i%100+1))))
		d.publish(t, s, l...)
		view, _ := modelPublish(views[i], l)
		views = append(views, view)
	}
	refuses(t, s, api.ErrFull)
	d.play(t, s.Sync())
	spans(t, s, 0, 1000, 1000)
	for _, floor := range []int{0, 1, 500, 999, 1000} {
		d.compact(t, s, floor)
		for _, left := range []disk{*d, d.least()} {
			again := left.opened(t)
			spans(t, again, floor, 1000, 1000)
			showsAll(t, again, views)
			refuses(t, again, api.ErrFull)
			refuses(t, again, api.ErrFull, entry(1, number(0)))
			compactRefuses(t, again, 1001)
		}
	}
}

// wide: an entry that takes as many bytes as one can.
func wide(i int) api.Entry {
	name := text(strings.Repeat("\xff", 14) + string([]byte{byte(i >> 8), byte(i)}))
	return entry(least+int64(i), name, name, name, name)
}

// TestLongFiles: changes of 32 entries and views of 128 rows, all as long as can be.
func TestLongFiles(t *testing.T) {
	d := &disk{}
	s := d.opened(t)
	var l []api.Entry
	for i := range 128 {
		l = append(l, wide(i))
	}
	views := [][]api.Entry{nil}
	for i := range 4 {
		d.publish(t, s, l[32*i:32*i+32]...)
		views = append(views, l[:32*i+32])
	}
	refuses(t, s, api.ErrFull, wide(128))
	for floor := range 5 {
		s = d.opened(t)
		showsAll(t, s, views)
		d.compact(t, s, floor)
		for _, left := range []disk{*d, d.least()} {
			again := left.opened(t)
			spans(t, again, floor, 4, 4)
			showsAll(t, again, views)
			refuses(t, again, api.ErrFull, wide(128))
			refuses(t, again, api.ErrWeight, entry(-1, l[0].Row.Cells[:]...))
		}
	}
}

// TestOpenKeepsNothingHandedIn: P2: not even the bytes of a text, nor are they in its acts.
func TestOpenKeepsNothingHandedIn(t *testing.T) {
	d := &disk{}
	s := d.opened(t)
	name := strings.Repeat("x", 16)
	d.publish(t, s, entry(1, text(name)))
	d.play(t, s.Sync())
	d.compact(t, s, 1)
	d.publish(t, s, entry(1, text(name), text(name)))
	d.publish(t, s, entry(1, text(name), text(name)))
	torn := *d
	torn.file[1] = torn.file[1][:len(torn.file[1])-1]
	for _, left := range []disk{*d, torn} {
		again, acts := left.open(t)
		for time := 1; time <= again.Span().Now; time++ {
			l, _ := again.View(time)
			for _, e := range l {
				if liesIn(e.Row.Cells[0].Text, left.file[1]) {
					t.Errorf("P2: a text of the view at %d lies in a file", time)
				}
			}
		}
		for _, a := range acts {
			if a.Data != "" && liesIn(a.Data, left.file[1]) {
				t.Errorf("P2: the data of an act lies in a file")
			}
		}
	}
}

// TestActsAreNewMemory: P2: a caller may write into the acts.
func TestActsAreNewMemory(t *testing.T) {
	spoil := func(acts []api.Act) []api.Act {
		was := slices.Clone(acts)
		acts = acts[:cap(acts)]
		for i := range acts {
			acts[i] = api.Act{Kind: 9, File: 9, Data: "spoiled"}
		}
		return was
	}
	run := func(after func([]api.Act) []api.Act) disk {
		d := disk{}
		s, acts := d.open(t)
		d.play(t, after(acts))
		for i := range 6 {
			acts, _ = s.Publish(rows(i, 2))
			d.play(t, after(acts))
			d.play(t, after(s.Sync()))
			acts, _ = s.Compact(i / 2)
			d.play(t, after(acts))
			s, acts = d.open(t)
			d.play(t, after(acts))
		}
		return d
	}
	plain := run(func(acts []api.Act) []api.Act { return acts })
	if run(spoil) != plain {
		t.Errorf("P2: later acts hang on what was written into earlier ones")
	}
}

// TestOpenOfSpoiledFiles: P1, P7: files near to those of a use: each call on what is opened ends, and answers in order.
func TestOpenOfSpoiledFiles(t *testing.T) {
	random := rand.New(rand.NewSource(23))
	d := &disk{}
	s := d.opened(t)
	for i := range 6 {
		d.publish(t, s, entry(1, number(int64(i))), entry(most/7, text("x")))
	}
	d.compact(t, s, 0)
	old := d.file[0]
	d.compact(t, s, 3)
	for range 20000 {
		files := [2]string{old, d.file[1]}
		for i := range files {
			b := []byte(files[i][:random.Intn(len(files[i])+1)])
			if random.Intn(2) == 0 {
				b = []byte(files[i])
			}
			for range min(random.Intn(3), len(b)) {
				b[random.Intn(len(b))] = byte(random.Intn(256))
			}
			files[i] = string(b)
		}
		s, acts, e := tidings.Open(files[0], files[1])
		if (s == nil) != (e == api.ErrFiles) || s != nil && e != api.OK || s == nil && len(acts) != 0 {
			t.Fatalf("P7: Open(%q, %q) = %v, %d acts, %d", files[0], files[1], s, len(acts), e)
		}
		if s == nil {
			continue
		}
		disk := &disk{file: files}
		disk.play(t, acts)
		span := s.Span()
		for _, time := range []int{span.Floor, span.Now} {
			l, _ := s.View(time)
			wantInOrder(t, l)
		}
		s.Publish(list(entry(1, text("x"))))
		disk.play(t, s.Sync())
		acts, _ = s.Compact(span.Now)
		disk.play(t, acts)
	}
}
