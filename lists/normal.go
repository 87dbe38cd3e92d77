package lists

import (
	"slices"
	"strings"

	"tidings/api"
	"tidings/fault"
)

// Normal answers the sum of a list by itself, its entries in any order and so many at most.
func Normal(l []api.Entry, most int) ([]api.Entry, error) {
	if err := Check(l, most); err != nil {
		return nil, err
	}
	return Sum(Term{List: sorted(l)})
}

// Less answers the sum of l less the sum of m.
func Less(l, m []api.Entry) ([]api.Entry, error) {
	plus, err := Normal(l, api.MaxRows)
	if err != nil {
		return nil, fault.At("list", 0, err)
	}
	minus, err := Normal(m, api.MaxRows)
	if err != nil {
		return nil, fault.At("list", 1, err)
	}
	return Sum(Term{List: plus}, Term{List: minus, Away: true})
}

// sorted copies the texts too, so that no answer holds on to what was handed in.
func sorted(l []api.Entry) []api.Entry {
	out := slices.Clone(l)
	for i := range out {
		for k := range out[i].Row.Cells {
			v := &out[i].Row.Cells[k]
			v.Text = strings.Clone(v.Text)
		}
	}
	slices.SortFunc(out, func(a, b api.Entry) int { return Compare(a.Row, b.Row) })
	return out
}
