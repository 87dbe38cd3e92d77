package tidings_test

import (
	"math/rand"
	"slices"
	"testing"

	"tidings/api"
	"tidings/tidings"
)

// found: what Open may find: at least so many changes, at most so many, and one of two floors.
type found struct {
	fewest, most int
	floors       [2]int
}

// crashes tries everything that crashes may leave, those between the acts of the Opens behind them too.
type crashes struct {
	t     *testing.T
	views [][]api.Entry
	tried map[crashed]bool
}

type crashed struct {
	disk  disk
	found found
}

// between tries crashes ahead of each act, and behind the last one. What is found behind that one is told apart.
func (c *crashes) between(d disk, acts []api.Act, ahead, behind found) {
	c.t.Helper()
	if len(acts) == 0 {
		c.all(d, behind)
		return
	}
	for i := range acts {
		c.all(d, ahead)
		d.play(c.t, acts[i:i+1])
	}
	c.all(d, behind)
}

func (c *crashes) all(d disk, f found) {
	c.t.Helper()
	for left := range d.crashes() {
		if !c.tried[crashed{left, f}] {
			c.tried[crashed{left, f}] = true
			c.open(left, f)
		}
	}
}

// open opens what is left, goes on with it, and tries the crashes between the acts of Open.
func (c *crashes) open(d disk, f found) {
	c.t.Helper()
	s, acts := d.open(c.t)
	span := s.Span()
	if span.Now < f.fewest || span.Now > f.most || span.Lasting != span.Now || span.Floor != f.floors[0] && span.Floor != f.floors[1] {
		c.t.Fatalf("P10: Span() = %+v behind a crash that left %q, want %+v", span, d.file, f)
	}
	showsAll(c.t, s, c.views)
	floors := [2]int{span.Floor, span.Floor}
	c.between(d, acts, found{f.fewest, span.Now, floors}, found{span.Now, span.Now, floors})
	d.play(c.t, acts)
	c.goOn(d, s)
}

// goOn: the source that was opened takes changes, and they are found again, as are its own.
func (c *crashes) goOn(d disk, s *tidings.Source) {
	c.t.Helper()
	span := s.Span()
	views := slices.Clone(c.views[:span.Now+1])
	for range 2 {
		now := len(views) - 1
		l := list(entry(9, truth(1)), entry(1, number(int64(now))))
		d.publish(c.t, s, l...)
		next, _ := modelPublish(views[now], l)
		views = append(views, next)
	}
	showsAll(c.t, s, views)
	left := d
	again := left.opened(c.t)
	spans(c.t, again, span.Floor, span.Now+2, span.Now+2)
	showsAll(c.t, again, views)
	d.play(c.t, s.Sync())
	left = d.least()
	spans(c.t, left.opened(c.t), span.Floor, span.Now+2, span.Now+2)
	left = d
	left.compact(c.t, s, span.Now+1)
	left = left.least()
	again = left.opened(c.t)
	spans(c.t, again, span.Now+1, span.Now+2, span.Now+2)
	showsAll(c.t, again, views)
}

// TestEveryCrash: P10: a short use of the files, with every crash that there may be in it.
func TestEveryCrash(t *testing.T) {
	const open, sync, publish = -1, -2, -3 // else Compact at that time
	for _, steps := range [][]int{
		{sync, 0, publish, sync, publish, publish, 1, publish, open, publish, 1, 4, 5, publish, 5},
		{publish, publish, open, open, 1, open, publish, 2, publish, sync, 4, open, sync},
		{publish, 0, publish, 0, publish, 1, publish, sync, publish, publish, 3, 6, 6, publish, sync, open},
	} {
		c := &crashes{t, [][]api.Entry{nil}, map[crashed]bool{}}
		d := disk{}
		s, acts := d.open(t)
		f := found{}
		c.between(d, acts, f, f)
		d.play(t, acts)
		for i, step := range steps {
			next := f
			switch step {
			case open:
				s, acts = d.open(t)
				spans(t, s, f.floors[0], f.most, f.most)
			case sync:
				acts = s.Sync()
			case publish:
				l := list(entry(int64(i%4+1), number(int64(i%3))), entry(1, text("ab")))
				acts, _ = s.Publish(l)
				view, _ := modelPublish(c.views[f.most], l)
				c.views = append(c.views, view)
				next.most++
			default:
				acts, _ = s.Compact(step)
				next.floors = [2]int{step, step}
			}
			if step != publish {
				next.fewest = f.most
			}
			c.between(d, acts, found{f.fewest, next.most, [2]int{f.floors[0], next.floors[0]}}, next)
			d.play(t, acts)
			f = next
			spans(t, s, f.floors[0], f.fewest, f.most)
			showsAll(t, s, c.views)
		}
	}
}

// drawnUse: a use of the files, drawn, and what there was and may be.
type drawnUse struct {
	t      *testing.T
	random *rand.Rand
	disk   disk
	source *tidings.Source
	views  [][]api.Entry
	floor  int
	last   int // the time up to which all lasts
}

func (u *drawnUse) now() int { return len(u.views) - 1 }

// call draws a call; it answers the acts, and the floor and the lasting time when they have been played.
func (u *drawnUse) call() ([]api.Act, int, int) {
	u.t.Helper()
	switch u.random.Intn(10) {
	case 0:
		return u.source.Sync(), u.floor, u.now()
	case 1, 2:
		time := u.floor + u.random.Intn(u.last-u.floor+1)
		acts, e := u.source.Compact(time)
		if e != api.OK {
			u.t.Fatalf("P9: Compact(%d) = %d", time, e)
		}
		return acts, time, u.now()
	case 3:
		s, acts := u.disk.open(u.t)
		u.source = s
		spans(u.t, s, u.floor, u.now(), u.now())
		return acts, u.floor, u.now()
	}
	l := randomList(u.random, 34)
	next, want := modelPublish(u.views[u.now()], l)
	acts, e := u.source.Publish(l)
	if e != want || e != api.OK && len(acts) != 0 {
		u.t.Fatalf("P8: Publish(%v) = %d acts, %d, want %d", l, len(acts), e, want)
	}
	if e == api.OK {
		u.views = append(u.views, next)
	}
	return acts, u.floor, u.last
}

// crash: the acts are played in part, those of some Opens too.
func (u *drawnUse) crash(acts []api.Act, floor int) {
	u.t.Helper()
	for range 1 + u.random.Intn(3) {
		u.disk.play(u.t, acts[:u.random.Intn(len(acts)+1)])
		u.disk = u.disk.drawnCrash(u.random)
		u.source, acts = u.disk.open(u.t)
	}
	u.disk.play(u.t, acts)
	span := u.source.Span()
	if span.Now < u.last || span.Now > u.now() || span.Lasting != span.Now || span.Floor != u.floor && span.Floor != floor {
		u.t.Fatalf("P10: Span() = %+v, %d of %d changes lasted, the floor was %d or %d", span, u.last, u.now(), u.floor, floor)
	}
	u.views, u.last, u.floor = u.views[:span.Now+1], span.Now, span.Floor
}

func TestDrawnUses(t *testing.T) {
	random := rand.New(rand.NewSource(29))
	for range 60 {
		u := &drawnUse{t: t, random: random, views: [][]api.Entry{nil}}
		u.source = u.disk.opened(t)
		for range 60 {
			acts, floor, last := u.call()
			if random.Intn(5) == 0 {
				u.crash(acts, floor)
				showsAll(t, u.source, u.views)
				continue
			}
			u.disk.play(t, acts)
			u.floor, u.last = floor, last
			spans(t, u.source, u.floor, u.last, u.now())
		}
		showsAll(t, u.source, u.views)
	}
}
