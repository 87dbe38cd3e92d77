package tidings_test

import (
	"math"
	"math/rand"
	"runtime"
	"slices"
	"strings"
	"sync"
	"testing"
	"time"
	"unsafe"

	"tidings/api"
	"tidings/tidings"
)

const (
	most  = math.MaxInt64
	least = math.MinInt64
)

// noRows: lists of one entry whose row is none.
func noRows() [][]api.Entry {
	return [][]api.Entry{
		{{}},
		{{Row: api.Row{Width: -1}, Weight: 1}},
		{{Row: api.Row{Width: 5}, Weight: 1}},
		{{Row: api.Row{Width: least}, Weight: 1}},
		{{Row: api.Row{Width: most}, Weight: 1}},
		{entry(1, truth(2))},
		{entry(1, truth(-1))},
		{entry(1, api.Value{Kind: api.Bool, Text: "x"})},
		{entry(1, api.Value{Int: 1})},
		{entry(1, api.Value{Text: "x"})},
		{entry(1, api.Value{Kind: api.Int, Text: "x"})},
		{entry(1, api.Value{Kind: api.Bytes, Int: 1})},
		{entry(1, text(strings.Repeat("x", 17)))},
		{entry(1, text(strings.Repeat("x", 1<<20)))},
		{entry(1, api.Value{Kind: 4})},
		{entry(1, api.Value{Kind: -1})},
		{entry(1, number(1), number(1), number(1), truth(2))},
		{{Row: api.Row{Width: 1, Cells: [4]api.Value{number(1), number(0)}}, Weight: 1}},
		{{Row: api.Row{Width: 3, Cells: [4]api.Value{number(1), number(0), number(0), {Text: "x"}}}, Weight: 1}},
	}
}

func TestNormalEdges(t *testing.T) {
	one := number(1)
	for k, c := range []struct {
		l, want []api.Entry
	}{
		{nil, nil},
		{list(), nil},
		{list(entry(0, one)), nil},
		{list(entry(1, number(2)), entry(3, one), entry(-1, number(2)), entry(1, one)), list(entry(4, one))},
		{list(entry(most, one), entry(1, one), entry(-1, one)), list(entry(most, one))},
		{list(entry(least, one), entry(-1, one), entry(1, one)), list(entry(least, one))},
		{list(entry(least, one), entry(most, one), entry(1, one)), nil},
		{list(entry(1, one, one, one, one)), list(entry(1, one, one, one, one))},
		{list(entry(1, text(strings.Repeat("x", 16)))), list(entry(1, text(strings.Repeat("x", 16))))},
		{list(entry(1, one, null()), entry(1, one)), list(entry(1, one), entry(1, one, null()))},
		{slices.Repeat(list(entry(1, one)), 128), list(entry(128, one))},
		{slices.Repeat(list(entry(most, one), entry(-most, one)), 64), nil},
	} {
		if out, e := tidings.Normal(c.l); e != api.OK || !slices.Equal(out, c.want) {
			t.Errorf("P4: line %d: Normal = %v, %d, want %v", k, out, e, c.want)
		}
	}
}

func TestOrderOfValues(t *testing.T) {
	want := list(entry(1, null()), entry(1, truth(0)), entry(1, truth(1)), entry(1, number(-5)), entry(1, number(7)),
		entry(1, text("")), entry(1, text("a")), entry(1, text("a"), null()), entry(1, text("ab")), entry(1, text("b")))
	random := rand.New(rand.NewSource(5))
	for range 100 {
		l := slices.Clone(want)
		random.Shuffle(len(l), func(i, k int) { l[i], l[k] = l[k], l[i] })
		if out, e := tidings.Normal(l); e != api.OK || !slices.Equal(out, want) {
			t.Fatalf("P4: Normal = %v, %d", out, e)
		}
	}
}

func TestNormalErrors(t *testing.T) {
	one := number(1)
	many := slices.Repeat(list(entry(most, one)), 129)
	for k, c := range []struct {
		l    []api.Entry
		want api.Errno
	}{
		{many, api.ErrMany},
		{append(slices.Clone(many), entry(1, truth(2))), api.ErrValue},
		{list(entry(most, one), entry(1, one)), api.ErrWeight},
		{list(entry(least, one), entry(-1, one)), api.ErrWeight},
		{slices.Repeat(list(entry(most, one)), 128), api.ErrWeight},
		{slices.Repeat(list(entry(least, one)), 128), api.ErrWeight},
		{list(entry(most, one), entry(1, one), entry(1, truth(2))), api.ErrValue},
		{list(entry(1, number(0)), entry(most, one), entry(1, one), entry(1, number(2))), api.ErrWeight},
	} {
		if out, e := tidings.Normal(c.l); e != c.want || len(out) != 0 {
			t.Errorf("P4: line %d: Normal = %v, %d, want %d", k, out, e, c.want)
		}
	}
	for k, l := range noRows() {
		if out, e := tidings.Normal(append(list(entry(1, one)), l...)); e != api.ErrValue || len(out) != 0 {
			t.Errorf("P4: row %d: Normal = %v, %d", k, out, e)
		}
	}
}

func TestLessEdges(t *testing.T) {
	one, two := number(1), number(2)
	for k, c := range []struct {
		l, m, want []api.Entry
	}{
		{nil, nil, nil},
		{list(entry(2, one)), list(entry(2, one), entry(1, two)), list(entry(-1, two))},
		{list(entry(1, two), entry(1, one)), nil, list(entry(1, one), entry(1, two))},
		{list(entry(-1, one)), list(entry(least, one)), list(entry(most, one))},
		{list(entry(least, one)), list(entry(least, one)), nil},
		{list(entry(least+1, one)), list(entry(1, one)), list(entry(least, one))},
		{nil, list(entry(most, one)), list(entry(-most, one))},
		{list(entry(0, one)), list(entry(0, two)), nil},
	} {
		if out, e := tidings.Less(c.l, c.m); e != api.OK || !slices.Equal(out, c.want) {
			t.Errorf("P4: line %d: Less = %v, %d, want %v", k, out, e, c.want)
		}
	}
	var low, high []api.Entry
	for i := range int64(128) {
		low, high = append(low, entry(1, number(2*i))), append(high, entry(1, number(2*i+1)))
	}
	if out, e := tidings.Less(low, high); e != api.OK || len(out) != 256 {
		t.Errorf("P4: Less of 128 and 128 rows: %d entries, %d", len(out), e)
	}
}

func TestLessErrors(t *testing.T) {
	one := number(1)
	many := slices.Repeat(list(entry(1, one)), 129)
	heavy := list(entry(most, one), entry(1, one))
	none := list(entry(1, truth(2)))
	for k, c := range []struct {
		l, m []api.Entry
		want api.Errno
	}{
		{none, many, api.ErrValue},
		{many, none, api.ErrMany},
		{heavy, none, api.ErrWeight},
		{heavy, many, api.ErrWeight},
		{nil, none, api.ErrValue},
		{nil, many, api.ErrMany},
		{nil, heavy, api.ErrWeight},
		{heavy, heavy, api.ErrWeight},
		{nil, list(entry(least, one)), api.ErrWeight},
		{list(entry(most, one)), list(entry(-1, one)), api.ErrWeight},
		{list(entry(-2, one)), list(entry(most, one)), api.ErrWeight},
	} {
		if out, e := tidings.Less(c.l, c.m); e != c.want || len(out) != 0 {
			t.Errorf("P4: line %d: Less = %v, %d, want %d", k, out, e, c.want)
		}
	}
}

func TestSumsAgainstModel(t *testing.T) {
	random := rand.New(rand.NewSource(7))
	for range 3000 {
		l, m := randomList(random, 40), randomList(random, 40)
		want, fits := modelSum(l, nil)
		out, e := tidings.Normal(l)
		if fits != (e == api.OK) || !fits && e != api.ErrWeight || !slices.Equal(out, want) {
			t.Fatalf("P4: Normal(%v) = %v, %d, want %v", l, out, e, want)
		}
		wantInOrder(t, out)
		_, other := modelSum(m, nil)
		less, between := modelSum(l, m)
		fits = fits && other && between
		if !fits {
			less = nil
		}
		out, e = tidings.Less(l, m)
		if fits != (e == api.OK) || !fits && e != api.ErrWeight || !slices.Equal(out, less) {
			t.Fatalf("P4: Less(%v, %v) = %v, %d, want %v", l, m, out, e, less)
		}
		wantInOrder(t, out)
	}
}

// TestMemory: P2: nothing handed in is written into, and answers share no memory with anything.
func TestMemory(t *testing.T) {
	room := make([]api.Entry, 8)
	for i := range room {
		room[i] = entry(int64(i+1), number(int64(9-i)), text("text"))
	}
	was := slices.Clone(room)
	calls := map[string]func() []api.Entry{
		"Normal": func() []api.Entry { l, _ := tidings.Normal(room[:5]); return l },
		"Less":   func() []api.Entry { l, _ := tidings.Less(room[:5], room[2:3]); return l },
		"Decode": func() []api.Entry { s, _ := tidings.Encode(room[:1]); l, _ := tidings.Decode(s); return l },
	}
	for name, call := range calls {
		first, second := call(), call()
		want := slices.Clone(second)
		first = first[:cap(first)]
		for i := range first {
			first[i] = entry(77, truth(1))
		}
		if len(first) == 0 || !slices.Equal(second, want) || !slices.Equal(call(), want) || !slices.Equal(room, was) {
			t.Errorf("P2: %s: an answer shares memory", name)
		}
	}
}

// TestTextsAreCopied: P2: nothing handed in is kept, not even the bytes of a text.
func TestTextsAreCopied(t *testing.T) {
	handed := strings.Repeat("x", 16)
	l := list(entry(1, text(handed)))
	s, _ := tidings.Encode(l)
	normal, _ := tidings.Normal(l)
	less, _ := tidings.Less(nil, l)
	decoded, _ := tidings.Decode(s)
	for k, out := range [][]api.Entry{normal, less, decoded} {
		if len(out) != 1 || out[0].Row.Cells[0].Text != handed {
			t.Fatalf("P4, P5: answer %d is %v", k, out)
		}
		if liesIn(out[0].Row.Cells[0].Text, handed) || liesIn(out[0].Row.Cells[0].Text, s) {
			t.Errorf("P2: the text of answer %d lies in what was handed in", k)
		}
	}
}

func liesIn(part, whole string) bool {
	p, w := uintptr(unsafe.Pointer(unsafe.StringData(part))), uintptr(unsafe.Pointer(unsafe.StringData(whole)))
	return p >= w && p < w+uintptr(len(whole))
}

// TestCallsSideBySide: P2: calls do not disturb one another, on one list too.
func TestCallsSideBySide(t *testing.T) {
	l := randomList(rand.New(rand.NewSource(11)), 128)
	for i := range l {
		l[i].Weight = int64(i%3 + 1)
	}
	want, _ := modelSum(l, nil)
	var calls sync.WaitGroup
	for range 16 {
		calls.Go(func() {
			for range 20 {
				if out, e := tidings.Normal(l); e != api.OK || !slices.Equal(out, want) {
					t.Errorf("P2: Normal = %v, %d", out, e)
				}
			}
		})
	}
	calls.Wait()
}

// TestNoGoroutineIsLeft: whatever a call answers, an error too.
func TestNoGoroutineIsLeft(t *testing.T) {
	one := number(1)
	heavy := list(entry(most, one), entry(1, one), entry(1, number(2)), entry(1, number(3)))
	source := opened(t)
	publish(t, source, heavy[0])
	left := &disk{}
	first := left.opened(t)
	left.publish(t, first, heavy[2:]...)
	left.publish(t, first, heavy[3:]...)
	left.play(t, first.Sync())
	asked := tidings.NewMirror().Tick()[0]
	answers := first.Handle(asked)
	first.Compact(2)
	answers = append(answers, first.Handle(asked)...)
	before := runtime.NumGoroutine()
	for range 200 {
		source.Publish(heavy)
		source.Publish(heavy[1:])
		source.Publish(heavy[2:])
		source.View(source.Span().Now)
		source.View(-1)
		source.Sync()
		source.Compact(max(0, source.Span().Now-3))
		source.Compact(-1)
		tidings.Open(left.file[0], left.file[1])
		tidings.Open(left.file[0], "\x00")
		tidings.Open(left.file[0][1:], "x")
		first.Handle(asked)
		mirror := tidings.NewMirror()
		for _, data := range answers {
			mirror.Handle(data)
		}
		mirror.Tick()
		mirror.View()
		tidings.Normal(heavy)
		tidings.Less(heavy[:1], list(entry(-1, one), entry(1, number(5)), entry(1, number(6))))
		tidings.Less(heavy[1:], heavy[2:])
		tidings.Less(nil, nil)
	}
	// A goroutine that has said its last word may still be counted for a moment.
	for range 500 {
		if runtime.NumGoroutine() <= before {
			return
		}
		time.Sleep(10 * time.Millisecond)
	}
	t.Errorf("%d goroutines, %d ahead of the calls", runtime.NumGoroutine(), before)
}
