package tidings_test

import (
	"math"
	"math/big"
	"math/rand"
	"slices"
	"strings"
	"testing"

	"tidings/api"
)

func null() api.Value { return api.Value{} }

func truth(n int64) api.Value { return api.Value{Kind: api.Bool, Int: n} }

func number(n int64) api.Value { return api.Value{Kind: api.Int, Int: n} }

func text(s string) api.Value { return api.Value{Kind: api.Bytes, Text: s} }

func entry(weight int64, values ...api.Value) api.Entry {
	e := api.Entry{Row: api.Row{Width: len(values)}, Weight: weight}
	copy(e.Row.Cells[:], values)
	return e
}

func list(l ...api.Entry) []api.Entry { return l }

// sortKey writes a row so that the order of the texts is that of the rows: told apart from the program's own comparing.
func sortKey(r api.Row) string {
	var b strings.Builder
	for _, v := range r.Cells[:r.Width] {
		b.WriteByte(byte('1' + v.Kind))
		for shift := 56; shift >= 0; shift -= 8 {
			b.WriteByte(byte((uint64(v.Int) ^ 1<<63) >> shift))
		}
		for i := range len(v.Text) {
			b.WriteByte(1)
			b.WriteByte(v.Text[i])
		}
		b.WriteByte(0)
	}
	return b.String()
}

// modelSum adds l and takes m away, in numbers of any length; it answers false where 64 bits do not hold a sum.
func modelSum(l, m []api.Entry) ([]api.Entry, bool) {
	sums := map[string]*big.Int{}
	rows := map[string]api.Row{}
	add := func(e api.Entry, sign int64) {
		k := sortKey(e.Row)
		if sums[k] == nil {
			sums[k], rows[k] = new(big.Int), e.Row
		}
		sums[k].Add(sums[k], new(big.Int).Mul(big.NewInt(e.Weight), big.NewInt(sign)))
	}
	for _, e := range l {
		add(e, 1)
	}
	for _, e := range m {
		add(e, -1)
	}
	var keys []string
	for k, n := range sums {
		if !n.IsInt64() {
			return nil, false
		}
		if n.Sign() != 0 {
			keys = append(keys, k)
		}
	}
	slices.Sort(keys)
	var out []api.Entry
	for _, k := range keys {
		out = append(out, api.Entry{Row: rows[k], Weight: sums[k].Int64()})
	}
	return out, true
}

func randomValue(random *rand.Rand) api.Value {
	values := []api.Value{
		null(), truth(0), truth(1), number(math.MinInt64), number(-5), number(0), number(7), number(math.MaxInt64),
		text(""), text("\x00"), text("a"), text("ab"), text("b"), text("\xff"), text(strings.Repeat("\xff", 16)),
	}
	return values[random.Intn(len(values))]
}

func randomWeight(random *rand.Rand) int64 {
	edges := []int64{math.MinInt64, math.MinInt64 + 1, -1, 0, 1, math.MaxInt64 - 1, math.MaxInt64}
	if random.Intn(40) == 0 {
		return edges[random.Intn(len(edges))]
	}
	return random.Int63n(7) - 3
}

func randomList(random *rand.Rand, most int) []api.Entry {
	var l []api.Entry
	wide := 1 + random.Intn(api.MaxColumns)
	even := random.Intn(2) == 0
	for range random.Intn(most + 1) {
		width := wide
		if !even {
			width = 1 + random.Intn(wide)
		}
		var values []api.Value
		for range width {
			values = append(values, randomValue(random))
		}
		l = append(l, entry(randomWeight(random), values...))
	}
	return l
}

// wantInOrder checks P3.
func wantInOrder(t *testing.T, l []api.Entry) {
	t.Helper()
	for i, e := range l {
		if e.Weight == 0 || i > 0 && sortKey(l[i-1].Row) >= sortKey(e.Row) {
			t.Fatalf("P3: not in order at %d: %v", i, l)
		}
	}
}
