package lists

import (
	"errors"
	"math"
	"math/big"
	"math/rand"
	"slices"
	"strings"
	"testing"

	"tidings/api"
	"tidings/fault"
)

func number(n int64) api.Value { return api.Value{Kind: api.Int, Int: n} }

func text(s string) api.Value { return api.Value{Kind: api.Bytes, Text: s} }

func row(values ...api.Value) api.Row {
	r := api.Row{Width: len(values)}
	copy(r.Cells[:], values)
	return r
}

func entry(weight int64, values ...api.Value) api.Entry {
	return api.Entry{Row: row(values...), Weight: weight}
}

func TestCompareOrdersAllPairs(t *testing.T) {
	yes, no := api.Value{Kind: api.Bool, Int: 1}, api.Value{Kind: api.Bool}
	rising := []api.Row{
		row(api.Value{}), row(api.Value{}, api.Value{}), row(api.Value{}, no),
		row(no), row(yes), row(yes, no), row(yes, yes, no, no),
		row(number(math.MinInt64)), row(number(-5)), row(number(7)), row(number(math.MaxInt64)),
		row(text("")), row(text(""), number(1)), row(text("\x00")), row(text("a")), row(text("a"), api.Value{}),
		row(text("a"), number(2)), row(text("ab")), row(text("b")), row(text("\x7f")), row(text("\x80")), row(text("\xff")),
		row(text("\xff"), text("\xff"), text("\xff"), text("\xff")),
	}
	for i, a := range rising {
		for k, b := range rising {
			c := Compare(a, b)
			if c < 0 != (i < k) || c > 0 != (i > k) {
				t.Errorf("Compare(%v, %v) = %d", a, b, c)
			}
		}
	}
}

func TestCheckNamesEntryAndCell(t *testing.T) {
	good := entry(1, number(1))
	for _, c := range []struct {
		l    []api.Entry
		most int
		want string
	}{
		{[]api.Entry{good, entry(1, number(1), text(strings.Repeat("x", 17)))}, 1, "entry 1: cell 1: no value"},
		{[]api.Entry{{Row: api.Row{Width: -1}}}, 128, "entry 0: width -1: no value"},
		{[]api.Entry{{Row: api.Row{Width: math.MaxInt}}}, 128, "entry 0: width 9223372036854775807: no value"},
		{slices.Repeat([]api.Entry{good}, 129), 128, "entry 128: too many entries"},
		{slices.Repeat([]api.Entry{good}, 33), 32, "entry 32: too many entries"},
	} {
		if err := Check(c.l, c.most); err == nil || err.Error() != c.want {
			t.Errorf("Check: %v, want %s", err, c.want)
		}
	}
	if err := Check(slices.Repeat([]api.Entry{good}, 128), 128); err != nil {
		t.Errorf("Check of 128 entries: %v", err)
	}
}

func TestCheckOrder(t *testing.T) {
	one, two := entry(1, number(1)), entry(-1, number(2))
	for _, c := range []struct {
		l    []api.Entry
		good bool
	}{
		{nil, true},
		{[]api.Entry{one, two}, true},
		{[]api.Entry{two, one}, false},
		{[]api.Entry{one, one}, false},
		{[]api.Entry{entry(0, number(1))}, false},
		{[]api.Entry{one, entry(0, number(2))}, false},
	} {
		err := CheckOrder(c.l)
		if (err == nil) != c.good || err != nil && !errors.Is(err, fault.Number(api.ErrOrder)) {
			t.Errorf("CheckOrder(%v) = %v", c.l, err)
		}
	}
}

func TestSumOfTerms(t *testing.T) {
	one, two, three := entry(1, number(1)), entry(2, number(2)), entry(3, number(3))
	for k, c := range []struct {
		terms []Term
		want  []api.Entry
	}{
		{nil, nil},
		{[]Term{{}, {List: []api.Entry{}}}, nil},
		{[]Term{{}, {List: []api.Entry{two}}, {}}, []api.Entry{two}},
		{[]Term{{List: []api.Entry{three}}, {List: []api.Entry{one, two}}}, []api.Entry{one, two, three}},
		{[]Term{{List: []api.Entry{one, one, one}}}, []api.Entry{entry(3, number(1))}},
		{[]Term{{List: []api.Entry{one, two}}, {List: []api.Entry{one, two}, Away: true}}, nil},
		{[]Term{{List: []api.Entry{one}, Away: true}, {List: []api.Entry{two}, Away: true}}, []api.Entry{entry(-1, number(1)), entry(-2, number(2))}},
		{slices.Repeat([]Term{{List: []api.Entry{one, two}}}, 1000), []api.Entry{entry(1000, number(1)), entry(2000, number(2))}},
	} {
		out, err := Sum(c.terms...)
		if err != nil || !slices.Equal(out, c.want) {
			t.Errorf("line %d: Sum = %v, %v, want %v", k, out, err, c.want)
		}
	}
}

// TestRoomOfView: a weight that does not fit is named ahead of rows that do not.
func TestRoomOfView(t *testing.T) {
	var rows []api.Entry
	for i := range int64(128) {
		rows = append(rows, entry(1, number(i)))
	}
	one, heavy := []api.Entry{entry(1, number(-1))}, []api.Entry{entry(math.MaxInt64, number(0))}
	if view, err := View(Term{List: rows}, Term{List: one}, Term{List: one, Away: true}); err != nil || !slices.Equal(view, rows) {
		t.Errorf("a view of 128 rows: %v, %v", view, err)
	}
	for _, c := range []struct {
		terms []Term
		want  string
	}{
		{[]Term{{List: rows}, {List: one}}, "row 128: no more room"},
		{[]Term{{List: rows}, {List: one}, {List: heavy}}, "row 1: a weight that 64 bits do not hold"},
	} {
		if view, err := View(c.terms...); view != nil || err == nil || err.Error() != c.want {
			t.Errorf("View = %v, %v, want %s", view, err, c.want)
		}
	}
}

func TestSumTooGreatEndsAllSenders(t *testing.T) {
	long := []api.Entry{entry(math.MaxInt64, number(1)), entry(1, number(2)), entry(1, number(3)), entry(1, number(4))}
	out, err := Sum(Term{List: long}, Term{List: long}, Term{List: long[2:]})
	if out != nil || !errors.Is(err, fault.Number(api.ErrWeight)) {
		t.Errorf("Sum = %v, %v", out, err)
	}
}

func TestTotalAgainstBigNumbers(t *testing.T) {
	random := rand.New(rand.NewSource(3))
	edges := []int64{math.MinInt64, math.MinInt64 + 1, -1, 0, 1, math.MaxInt64 - 1, math.MaxInt64}
	for range 5000 {
		var got total
		want := new(big.Int)
		for range 1 + random.Intn(8) {
			n := edges[random.Intn(len(edges))]
			away := random.Intn(2) == 1
			got = got.with(n, away)
			if away {
				want.Sub(want, big.NewInt(n))
			} else {
				want.Add(want, big.NewInt(n))
			}
			n, fits := got.narrow()
			if fits != want.IsInt64() || fits && n != want.Int64() {
				t.Fatalf("total is %d, %v, want %v", n, fits, want)
			}
		}
	}
}
