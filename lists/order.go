// Package lists: lists of entries: what is one, their order, their sums.
package lists

import (
	"cmp"
	"strings"

	"tidings/api"
	"tidings/fault"
)

// Compare tells the order of two rows: below 0, 0 or above 0.
func Compare(a, b api.Row) int {
	for i := range min(a.Width, b.Width) {
		if c := compareValues(a.Cells[i], b.Cells[i]); c != 0 {
			return c
		}
	}
	return cmp.Compare(a.Width, b.Width)
}

// compareValues may hold all fields against each other, as those that a kind does not use are the same.
func compareValues(a, b api.Value) int {
	return cmp.Or(cmp.Compare(a.Kind, b.Kind), cmp.Compare(a.Int, b.Int), strings.Compare(a.Text, b.Text))
}

// CheckOrder answers ErrOrder for a list that is not in order.
func CheckOrder(l []api.Entry) error {
	for i, e := range l {
		if e.Weight == 0 || i > 0 && Compare(l[i-1].Row, e.Row) >= 0 {
			return fault.At("entry", i, fault.Number(api.ErrOrder))
		}
	}
	return nil
}
