package tidings_test

import (
	"math/rand"
	"slices"
	"strings"
	"testing"

	"tidings/api"
	"tidings/tidings"
)

// told: a network, what a mirror asks in it, and what it is answered: changes, and pieces of a view.
func told(t *testing.T) (*network, []post, []post) {
	t.Helper()
	n := newNetwork(t, 11, 2)
	for i := range 9 {
		n.publish(append(rows(3*i, 3), entry(most/10, text("abc"), truth(1)))...)
	}
	n.sync()
	asks := n.sent(0, n.mirrors[0].Tick())
	answers := n.answers(0)
	n.compact(7)
	answers = append(answers, n.answers(0)...)
	if len(asks) != 1 || len(answers) != 8+2 {
		t.Fatalf("%d datagrams are answered by %d", len(asks), len(answers))
	}
	return n, asks, answers
}

// TestEveryRunOfBits: P12: wherever the run lies, at both ends too; of the changes in it some are drawn.
func TestEveryRunOfBits(t *testing.T) {
	n, asks, answers := told(t)
	for i, p := range append(asks, answers...) {
		for from := range 8 * len(p.data) {
			for _, run := range []uint32{1, 3, 1<<31 | 1, 1<<32 - 1, n.random.Uint32() | 1, n.random.Uint32() | 1} {
				n.isDeafTo(0, i < len(asks), changed(p.data, from, run))
			}
		}
	}
	n.isAt(0, 0)
	// What was spoiled is not kept for later: with the first change alone it is no more than that.
	n.reaches(answers[0], false)
	n.isAt(0, 1)
	n.reaches(answers[9], false)
	n.isAt(0, 1)
	n.reaches(answers[8], false)
	n.isAt(0, 7)
	n.catchesUp(0)
}

func TestTextsTooShortOrTooLong(t *testing.T) {
	n, asks, answers := told(t)
	for _, up := range []bool{true, false} {
		for _, size := range []int{0, 1, 2, 3, 4, 4097, 4098, 8192, 1 << 20} {
			for _, c := range []string{"\x00", "\x01", "\xff"} {
				n.isDeafTo(0, up, strings.Repeat(c, size))
			}
			for _, p := range append(asks, answers...) {
				long := p.data + strings.Repeat("\x00", max(0, size-len(p.data)))
				n.isDeafTo(0, up, long[:size])
			}
		}
	}
	n.isAt(0, 0)
	n.catchesUp(0)
}

// TestBytesThatNobodySends: P1, P12: of all lengths that a datagram may have; pieces of datagrams, and more than one; those of a mirror at a mirror, and of a source at a source.
func TestBytesThatNobodySends(t *testing.T) {
	random := rand.New(rand.NewSource(41))
	n, asks, answers := told(t)
	for _, up := range []bool{true, false} {
		for _, size := range []int{5, 6, 7, 8, 9, 10, 11, 100, 4095, 4096} {
			for _, c := range []string{"\x00", "\x01", "\x02", "\x03", "\xff"} {
				n.isDeafTo(0, up, strings.Repeat(c, size))
			}
			for range 50 {
				b := make([]byte, size)
				random.Read(b)
				n.isDeafTo(0, up, string(b))
			}
		}
		for _, p := range append(asks, answers...) {
			for k := range len(p.data) {
				n.isDeafTo(0, up, p.data[:k])
				n.isDeafTo(0, up, p.data[k+1:])
			}
			n.isDeafTo(0, up, p.data+"\x00")
			n.isDeafTo(0, up, p.data+p.data)
		}
	}
	for _, p := range asks {
		n.isDeafTo(0, false, p.data)
	}
	for _, p := range answers {
		n.isDeafTo(0, true, p.data)
	}
	n.isAt(0, 0)
	n.catchesUp(0)
}

// TestRightDatagramsOfAnotherNetwork: of what they do nothing is said, but for P1 and P3: each call ends, and lists are in order.
func TestRightDatagramsOfAnotherNetwork(t *testing.T) {
	var all []string
	for seed := range int64(8) {
		all = append(all, drawnNetwork(t, 200+seed)...)
	}
	random := rand.New(rand.NewSource(43))
	for range 10 {
		m := tidings.NewMirror()
		s := full(t)
		s.Sync()
		for range 1000 {
			data := all[random.Intn(len(all))]
			for _, l := range [][]string{m.Handle(data), s.Handle(data), m.Tick()} {
				if len(l) > api.MaxSent {
					t.Fatalf("P11, P12: %d datagrams", len(l))
				}
			}
			l, _ := m.View()
			wantInOrder(t, l)
		}
	}
}

// TestHandleChangesNothingAtTheSource: P11: beside a source that is never asked it holds and writes the same.
func TestHandleChangesNothingAtTheSource(t *testing.T) {
	_, asks, answers := told(t)
	var alone, asked disk
	a, b := alone.opened(t), asked.opened(t)
	for i := range 40 {
		for _, p := range append(asks, answers...) {
			b.Handle(p.data)
			b.Handle(p.data[1:])
		}
		if a.Span() != b.Span() {
			t.Fatalf("P11: Span() = %+v, and %+v where it was asked", a.Span(), b.Span())
		}
		for time := a.Span().Floor; time <= a.Span().Now; time++ {
			l, _ := a.View(time)
			shows(t, b, time, l...)
		}
		l := rows(2*i, 3)
		alone.publish(t, a, l...)
		asked.publish(t, b, l...)
		if i%3 == 1 {
			alone.play(t, a.Sync())
			asked.play(t, b.Sync())
		}
		if i%7 == 6 {
			alone.compact(t, a, i-3)
			asked.compact(t, b, i-3)
		}
		if alone != asked {
			t.Fatalf("P11: the files hold other bytes where the source was asked")
		}
	}
}

// TestAnswersAreTheSame: P2: a call that changes nothing answers the same again.
func TestAnswersAreTheSame(t *testing.T) {
	n, asks, _ := told(t)
	first := n.source.Handle(asks[0].data)
	want := slices.Clone(first)
	spare := first[:cap(first)]
	for i := range spare {
		spare[i] = "written"
	}
	if got := n.source.Handle(asks[0].data); !slices.Equal(got, want) {
		t.Errorf("P2: Handle answers %q, and before %q", got, want)
	}
	m := n.mirrors[0]
	sent := m.Tick()
	want = slices.Clone(sent)
	sent[0] = "written"
	if got := m.Tick(); !slices.Equal(got, want) {
		t.Errorf("P2: Tick answers %q, and before %q", got, want)
	}
}

// TestMirrorSharesNoMemory: P2: a caller may write into a view, its spare room too.
func TestMirrorSharesNoMemory(t *testing.T) {
	n := newNetwork(t, 12, 2)
	spoil := func() {
		for _, m := range n.mirrors {
			l, _ := m.View()
			l = l[:cap(l)]
			for i := range l {
				l[i] = entry(77, truth(1))
			}
		}
		n.looks()
	}
	for i := range 30 {
		n.publish(rows(2*i, 3)...)
		n.sync()
		n.round(0)
		spoil()
	}
	n.compact(20)
	n.tick(1)
	n.exchange()
	n.isAt(1, 20)
	spoil()
	n.catchesUp(1)
	spoil()
}

// TestMirrorKeepsNothingHandedIn: P2: not even the bytes of a text, of changes and of pieces of a view.
func TestMirrorKeepsNothingHandedIn(t *testing.T) {
	n := newNetwork(t, 13, 2)
	name := strings.Repeat("x", 16)
	n.publish(entry(1, text(name)), entry(1, text(name), text(name)))
	n.publish(entry(1, text(name[1:])))
	n.sync()
	changes := n.answers(0)
	n.compact(2)
	views := n.answers(1)
	for _, p := range append(changes, views...) {
		n.reaches(p, false)
		l, time := n.mirrors[p.mirror].View()
		for _, e := range l {
			if liesIn(e.Row.Cells[0].Text, p.data) {
				t.Errorf("P2: a text of the view at %d lies in a datagram", time)
			}
		}
	}
	n.isAt(0, 2)
	n.isAt(1, 2)
}
