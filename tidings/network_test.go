package tidings_test

import (
	"math/rand"
	"slices"
	"testing"

	"tidings/api"
	"tidings/tidings"
)

// post: a datagram on its way from a mirror to the source, or back.
type post struct {
	mirror int
	data   string
}

// network: a use of the files, mirrors, and what is on its way.
type network struct {
	drawnUse
	mirrors  []*tidings.Mirror
	times    []int // those at which the mirrors were seen last
	up, down []post
	log      []string // all that was ever sent
}

func newNetwork(t *testing.T, seed int64, mirrors int) *network {
	t.Helper()
	n := &network{drawnUse: drawnUse{t: t, random: rand.New(rand.NewSource(seed)), views: [][]api.Entry{nil}}}
	n.source = n.disk.opened(t)
	for range mirrors {
		n.join()
	}
	return n
}

// join: one more mirror.
func (n *network) join() {
	n.t.Helper()
	m := tidings.NewMirror()
	if m == nil {
		n.t.Fatal("P12: no mirror")
	}
	if l, time := m.View(); len(l) != 0 || time != 0 {
		n.t.Fatalf("P12: a new mirror shows %v, %d", l, time)
	}
	n.mirrors, n.times = append(n.mirrors, m), append(n.times, 0)
}

func (n *network) publish(l ...api.Entry) {
	n.t.Helper()
	n.disk.publish(n.t, n.source, l...)
	view, _ := modelPublish(n.views[n.now()], l)
	n.views = append(n.views, view)
}

func (n *network) sync() {
	n.t.Helper()
	n.disk.play(n.t, n.source.Sync())
	n.last = n.now()
}

func (n *network) compact(time int) {
	n.t.Helper()
	n.disk.compact(n.t, n.source, time)
	n.floor, n.last = time, n.now()
}

// sent: what a call has sent, which must be datagrams.
func (n *network) sent(mirror int, l []string) []post {
	n.t.Helper()
	if len(l) > api.MaxSent {
		n.t.Fatalf("P11, P12: %d datagrams", len(l))
	}
	var posts []post
	for _, data := range l {
		if len(data) < api.MinData || len(data) > api.MaxData {
			n.t.Fatalf("P11, P12: a datagram of %d bytes", len(data))
		}
		posts = append(posts, post{mirror, data})
	}
	n.log = append(n.log, l...)
	return posts
}

func (n *network) tick(mirror int) {
	n.t.Helper()
	n.up = append(n.up, n.sent(mirror, n.mirrors[mirror].Tick())...)
}

// reaches: a datagram arrives at the source, or at its mirror.
func (n *network) reaches(p post, up bool) {
	n.t.Helper()
	if up {
		n.down = append(n.down, n.sent(p.mirror, n.source.Handle(p.data))...)
		return
	}
	n.up = append(n.up, n.sent(p.mirror, n.mirrors[p.mirror].Handle(p.data))...)
	n.looksAt(p.mirror)
}

// looksAt: P12, of a mirror.
func (n *network) looksAt(mirror int) {
	n.t.Helper()
	l, time := n.mirrors[mirror].View()
	if time < n.times[mirror] || time > n.last || !slices.Equal(l, n.views[time]) {
		n.t.Fatalf("P12: mirror %d shows %v, %d; it was at %d, %d lasts", mirror, l, time, n.times[mirror], n.last)
	}
	n.times[mirror] = time
}

// looks: P12, of all mirrors.
func (n *network) looks() {
	n.t.Helper()
	for m := range n.mirrors {
		n.looksAt(m)
	}
}

// exchange: all that is on its way to the source arrives, then all that is on its way to the mirrors; some of it twice.
func (n *network) exchange() {
	n.t.Helper()
	for _, p := range n.drawn(&n.up) {
		n.reaches(p, true)
	}
	for _, p := range n.drawn(&n.down) {
		n.reaches(p, false)
	}
}

// drawn: what was on its way, in any order, some of it twice.
func (n *network) drawn(way *[]post) []post {
	var l []post
	for _, p := range *way {
		l = append(l, slices.Repeat([]post{p}, 1+n.random.Intn(2))...)
	}
	*way = nil
	n.random.Shuffle(len(l), func(i, k int) { l[i], l[k] = l[k], l[i] })
	return l
}

// round: a mirror ticks, and all arrives until nothing is on its way.
func (n *network) round(mirror int) {
	n.t.Helper()
	n.tick(mirror)
	// So many are on their way only if they breed.
	const flood = 20000
	for k := 0; len(n.up)+len(n.down) > 0; k++ {
		if k == 100 || len(n.up)+len(n.down) > flood {
			n.t.Fatalf("P13: behind %d exchanges of a round %d datagrams are on their way", k, len(n.up)+len(n.down))
		}
		n.exchange()
	}
}

// catchesUp: P13, of a mirror.
func (n *network) catchesUp(mirror int) {
	n.t.Helper()
	n.looks()
	for range n.last - n.times[mirror] + 12 {
		n.round(mirror)
	}
	n.isAt(mirror, n.last)
}

func (n *network) isAt(mirror, time int) {
	n.t.Helper()
	n.looks()
	if n.times[mirror] != time {
		n.t.Fatalf("P12, P13: mirror %d is at %d, want %d; %d lasts", mirror, n.times[mirror], time, n.last)
	}
}

// answers: what the source answers to a mirror's tick; it is not on its way.
func (n *network) answers(mirror int) []post {
	n.t.Helper()
	var l []post
	for _, data := range n.mirrors[mirror].Tick() {
		l = append(l, n.sent(mirror, n.source.Handle(data))...)
	}
	return l
}

func TestExampleOfMirror(t *testing.T) {
	n := newNetwork(t, 1, 1)
	n.publish(entry(1, number(1)))
	for range 5 {
		n.round(0)
		n.isAt(0, 0)
	}
	n.sync()
	n.catchesUp(0)
	l, time := n.mirrors[0].View()
	if want := list(entry(1, number(1))); !slices.Equal(l, want) || time != 1 {
		t.Errorf("P12: the mirror shows %v, %d", l, time)
	}
}

// TestOnlyWhatLastsIsTold: P11: for each time up to which all may last.
func TestOnlyWhatLastsIsTold(t *testing.T) {
	n := newNetwork(t, 2, 1)
	n.round(0)
	for i := range 40 {
		n.publish(entry(1, number(int64(i))))
		if i%5 == 3 {
			n.join()
			n.sync()
		}
		n.join()
		for m := range n.mirrors {
			n.round(m)
		}
	}
	for m := range n.mirrors {
		n.catchesUp(m)
	}
	if n.last != 39 {
		t.Fatalf("%d of 40 changes last", n.last)
	}
}

// TestFloorsAheadOfMirrors: each floor, and mirrors of each time below, at and above it.
func TestFloorsAheadOfMirrors(t *testing.T) {
	for floor := range 22 {
		n := newNetwork(t, int64(floor), 1)
		for i := range 20 {
			n.publish(append(rows(3*i, 3), entry(int64(i), text("x")))...)
			n.sync()
			n.join()
			n.catchesUp(i + 1)
		}
		n.publish()
		n.sync()
		n.compact(floor)
		for m := range n.mirrors {
			n.isAt(m, m)
			n.catchesUp(m)
		}
	}
}

// TestMirrorsOfEmptyViews: a view without rows is told of as well.
func TestMirrorsOfEmptyViews(t *testing.T) {
	n := newNetwork(t, 3, 2)
	n.publish(rows(0, 30)...)
	n.sync()
	n.catchesUp(1)
	n.publish(entry(-1, number(0)))
	var away []api.Entry
	for _, e := range rows(1, 29) {
		away = append(away, entry(-1, e.Row.Cells[0]))
	}
	n.publish(away...)
	n.publish()
	n.sync()
	n.compact(3)
	for m := range n.mirrors {
		n.catchesUp(m)
		if l, time := n.mirrors[m].View(); len(l) != 0 || time != 4 {
			t.Errorf("P12: the mirror shows %v, %d", l, time)
		}
	}
}

func TestMirrorsOfThousandChanges(t *testing.T) {
	n := newNetwork(t, 4, 3)
	for i := range 1000 {
		n.publish(entry(1, number(0)), entry(int64(i%3-1), number(int64(i%100+1))))
		if i == 700 {
			n.sync()
			n.catchesUp(2)
		}
	}
	n.sync()
	n.catchesUp(0)
	for _, floor := range []int{0, 1, 500, 701, 702, 999, 1000} {
		n.compact(floor)
		n.join()
		n.catchesUp(len(n.mirrors) - 1)
		if floor == 702 {
			n.catchesUp(2)
		}
	}
	n.catchesUp(1)
}

// TestLongestDatagrams: changes of 32 entries and views of 128 rows, all as long as can be.
func TestLongestDatagrams(t *testing.T) {
	n := newNetwork(t, 5, 1)
	var l []api.Entry
	for i := range 128 {
		l = append(l, wide(i))
	}
	for i := range 4 {
		n.publish(l[32*i : 32*i+32]...)
	}
	n.sync()
	if sent := n.answers(0); len(sent) != 4 || len(sent[0].data) < 2500 {
		t.Errorf("P11: %d datagrams", len(sent))
	}
	n.catchesUp(0)
	for floor := range 5 {
		n.compact(floor)
		n.join()
		n.catchesUp(len(n.mirrors) - 1)
	}
}

// TestBehindACrash: what was told ahead of it is still right, and what did not last was not told.
func TestBehindACrash(t *testing.T) {
	n := newNetwork(t, 6, 3)
	n.publish(rows(0, 20)...)
	n.publish(rows(10, 20)...)
	n.sync()
	n.publish(entry(7, text("lost")))
	n.publish(entry(7, text("lost, too")))
	n.tick(0)
	n.tick(1)
	n.exchange()
	n.isAt(0, 2)
	n.tick(0)
	n.tick(2)
	early := append(n.answers(0), n.answers(2)...)
	n.disk = n.disk.least()
	n.source = n.disk.opened(t)
	n.views = n.views[:3]
	n.publish(entry(-1, number(0)), entry(9, text("other")))
	for _, p := range early {
		n.reaches(p, false)
	}
	n.isAt(2, 2)
	n.sync()
	n.publish(entry(-9, text("other")))
	n.publish(rows(50, 32)...)
	n.compact(3)
	late := n.answers(2)
	n.compact(5)
	n.disk = n.disk.least()
	n.source = n.disk.opened(t)
	for _, p := range append(late, early...) {
		n.reaches(p, false)
	}
	for m := range n.mirrors {
		n.catchesUp(m)
	}
}

// TestViewsOfTwoTimesAreNotMixed: pieces of one time and of another, in turns.
func TestViewsOfTwoTimesAreNotMixed(t *testing.T) {
	n := newNetwork(t, 7, 1)
	for i := range 4 {
		n.publish(rows(25*i, 25)...)
	}
	n.sync()
	var told [][]post
	for range 4 {
		n.publish(slices.Concat(rows(0, 10), rows(80, 10))...)
		n.compact(n.now() - 1)
		told = append(told, n.answers(0))
	}
	for place := range told[0] {
		for _, k := range []int{2, 0, 3, 1} {
			n.reaches(told[k][len(told[k])-1-place], false)
		}
	}
	n.catchesUp(0)
}

// permutations calls f with each order of a list.
func permutations[E any](l []E, f func([]E)) {
	var from func(k int)
	from = func(k int) {
		if k == len(l) {
			f(l)
		}
		for i := k; i < len(l); i++ {
			l[k], l[i] = l[i], l[k]
			from(k + 1)
			l[k], l[i] = l[i], l[k]
		}
	}
	from(0)
}

// TestEveryOrder: changes, and the views at two floors, in each order that there is.
func TestEveryOrder(t *testing.T) {
	n := newNetwork(t, 8, 1)
	for i := range 3 {
		n.publish(rows(5*i, 5)...)
	}
	n.sync()
	told := n.answers(0)
	n.compact(2)
	told = append(told, n.answers(0)...)
	n.publish(rows(15, 5)...)
	n.sync()
	n.compact(4)
	told = append(told, n.answers(0)...)
	n.catchesUp(0)
	n.publish(rows(18, 5)...)
	n.publish(rows(0, 1)...)
	n.publish(rows(0, 1)...)
	n.sync()
	told = append(told, n.answers(0)[0])
	if len(told) != 3+1+2+1 {
		t.Fatalf("%d datagrams", len(told))
	}
	permutations(told, func(l []post) {
		n.mirrors[0], n.times[0] = tidings.NewMirror(), 0
		for _, p := range l {
			n.reaches(p, false)
			n.reaches(l[0], false)
		}
		n.isAt(0, 5)
		n.round(0)
		n.isAt(0, 7)
	})
}

// loseAndSpoil: what is drawn of all that is on its way is lost, spoiled, or arrives; it may arrive again later.
func (n *network) loseAndSpoil() {
	n.t.Helper()
	up := n.random.Intn(2) == 0
	way := &n.down
	if up {
		way = &n.up
	}
	if len(*way) == 0 {
		return
	}
	i := n.random.Intn(len(*way))
	p := (*way)[i]
	if n.random.Intn(4) > 0 {
		*way = slices.Delete(*way, i, i+1)
	}
	switch n.random.Intn(6) {
	case 0:
	case 1:
		n.isDeafTo(p.mirror, up, spoiled(n.random, p.data))
	default:
		n.reaches(p, up)
	}
}

// isDeafTo: a text that is answered by nothing, and changes nothing at a mirror.
func (n *network) isDeafTo(mirror int, up bool, data string) {
	n.t.Helper()
	var l []string
	if up {
		l = n.source.Handle(data)
	} else {
		was, time := n.mirrors[mirror].View()
		l = n.mirrors[mirror].Handle(data)
		if is, now := n.mirrors[mirror].View(); now != time || !slices.Equal(is, was) {
			n.t.Fatalf("P12: %d bytes have changed a mirror from %v, %d to %v, %d", len(data), was, time, is, now)
		}
	}
	if len(l) != 0 {
		n.t.Fatalf("P12: %q is answered by %q", data, l)
	}
}

// spoiled: one run of at most 32 bits is changed in some places, the lowest bit of a byte first.
func spoiled(random *rand.Rand, data string) string {
	return changed(data, random.Intn(8*len(data)), random.Uint32()|1)
}

// changed: the bits from one on are changed where the run has ones.
func changed(data string, from int, run uint32) string {
	b := []byte(data)
	for i := from; i < min(from+32, 8*len(b)); i++ {
		b[i/8] ^= byte(run>>(i-from)&1) << (i % 8)
	}
	return string(b)
}

// use: a call on the source, or a crash; what the source answers while acts are still to be played is not sent.
func (n *network) use() {
	n.t.Helper()
	acts, floor, last := n.call()
	n.answers(n.random.Intn(len(n.mirrors)))
	if n.random.Intn(6) == 0 {
		n.crash(acts, floor)
		return
	}
	n.disk.play(n.t, acts)
	n.floor, n.last = floor, last
}

// drawnNetwork: all that there may be, drawn; then each mirror catches up. It answers all that was sent.
func drawnNetwork(t *testing.T, seed int64) []string {
	t.Helper()
	n := newNetwork(t, seed, 3)
	for range 250 {
		switch k := n.random.Intn(10); {
		case k == 0:
			n.use()
		case k < 4:
			n.tick(n.random.Intn(3))
		default:
			n.loseAndSpoil()
		}
		n.looks()
	}
	if n.random.Intn(2) == 0 {
		n.sync()
	}
	for m := range n.mirrors {
		n.catchesUp(m)
	}
	return n.log
}

func TestDrawnNetworks(t *testing.T) {
	for seed := range int64(80) {
		drawnNetwork(t, seed)
	}
}

// TestNetworksDoNotDisturbOneAnother: P2: side by side each sends what it sends by itself.
func TestNetworksDoNotDisturbOneAnother(t *testing.T) {
	for seed := range int64(6) {
		want := drawnNetwork(t, 100+seed)
		if len(want) < 100 {
			t.Fatalf("only %d datagrams", len(want))
		}
		t.Run("", func(t *testing.T) {
			t.Parallel()
			if got := drawnNetwork(t, 100+seed); !slices.Equal(got, want) {
				t.Errorf("P2: network %d sends other datagrams beside others", seed)
			}
		})
	}
}

// TestTwoNetworksInTurns: P2: two sources and their mirrors, used in turns.
func TestTwoNetworksInTurns(t *testing.T) {
	a, b := newNetwork(t, 9, 2), newNetwork(t, 10, 2)
	for i := range 30 {
		a.publish(rows(i, 3)...)
		b.publish(entry(1, text("x")), entry(-1, number(int64(i))))
		a.sync()
		if i%4 == 0 {
			b.sync()
		}
		for _, n := range []*network{a, b} {
			n.round(i % 2)
			n.looks()
		}
		if i == 20 {
			b.compact(18)
		}
	}
	for m := range 2 {
		b.catchesUp(m)
		a.catchesUp(m)
	}
}
