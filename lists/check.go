package lists

import (
	"tidings/api"
	"tidings/fault"
)

// Check answers ErrValue for a row that is none, or else ErrMany for more entries than there may be.
func Check(l []api.Entry, most int) error {
	for i := range l {
		if err := checkRow(&l[i].Row); err != nil {
			return fault.At("entry", i, err)
		}
	}
	if len(l) > most {
		return fault.At("entry", most, fault.Number(api.ErrMany))
	}
	return nil
}

func checkRow(r *api.Row) error {
	if r.Width < 1 || r.Width > api.MaxColumns {
		return fault.At("width", r.Width, fault.Number(api.ErrValue))
	}
	for i, v := range r.Cells {
		if i < r.Width && !isValue(v) || i >= r.Width && v != (api.Value{}) {
			return fault.At("cell", i, fault.Number(api.ErrValue))
		}
	}
	return nil
}

func isValue(v api.Value) bool {
	switch v.Kind {
	case api.Null:
		return v.Int == 0 && v.Text == ""
	case api.Bool:
		return (v.Int == 0 || v.Int == 1) && v.Text == ""
	case api.Int:
		return v.Text == ""
	case api.Bytes:
		return v.Int == 0 && len(v.Text) <= api.MaxText
	}
	return false
}
