package code

import (
	"tidings/api"
	"tidings/lists"
)

// Write writes a list as bytes; it answers ErrValue, ErrMany or ErrOrder for what is no list in order.
func Write(l []api.Entry) (string, error) {
	if err := lists.Check(l, api.MaxRows); err != nil {
		return "", err
	}
	if err := lists.CheckOrder(l); err != nil {
		return "", err
	}
	b := []byte{byte(len(l))}
	if len(l) > 0 {
		b = appendEntries(b, l)
	}
	return string(b), nil
}

func appendEntries(b []byte, l []api.Entry) []byte {
	s := findShape(l)
	b = append(b, byte(s))
	if s == mixed {
		for _, e := range l {
			b = append(b, byte(e.Row.Width))
			b = appendCells(b, e.Row, shapeOf(e.Row.Width, 0), false)
			b = appendNumber(b, e.Weight)
		}
		return b
	}
	b = appendCells(b, l[0].Row, s, true)
	for _, e := range l {
		b = appendCells(b, e.Row, s, false)
		b = appendNumber(b, e.Weight)
	}
	return b
}

func findShape(l []api.Entry) shape {
	first := l[0].Row
	var differ byte
	for _, e := range l {
		if e.Row.Width != first.Width {
			return mixed
		}
		for i := range first.Width {
			if e.Row.Cells[i] != first.Cells[i] {
				differ |= 1 << i
			}
		}
	}
	all := byte(1)<<first.Width - 1
	return shapeOf(first.Width, all&^differ)
}

// appendCells writes the values of the columns that are all the same, or of those that are not.
func appendCells(b []byte, r api.Row, s shape, same bool) []byte {
	for i := range s.width() {
		if s.same(i) == same {
			b = appendValue(b, r.Cells[i])
		}
	}
	return b
}

func appendValue(b []byte, v api.Value) []byte {
	switch v.Kind {
	case api.Bool:
		return append(b, tagFalse+byte(v.Int))
	case api.Int:
		return appendNumber(append(b, tagInt), v.Int)
	case api.Bytes:
		return append(append(b, tagBytes+byte(len(v.Text))), v.Text...)
	}
	return append(b, tagNull)
}

// appendNumber turns the sign into the lowest bit, so that numbers near 0 are short on both sides.
func appendNumber(b []byte, n int64) []byte {
	u := uint64(n)<<1 ^ uint64(n>>63)
	for u >= 0x80 {
		b = append(b, byte(u)|0x80)
		u >>= 7
	}
	return append(b, byte(u))
}
