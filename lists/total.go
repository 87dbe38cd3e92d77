package lists

import "math/bits"

// total is a sum of 128 bits with a sign: what is added on the way may be more than 64 bits hold, though the end is not.
type total struct {
	high, low uint64
}

// with adds a weight, or takes it away.
func (t total) with(weight int64, away bool) total {
	high, low := uint64(weight>>63), uint64(weight)
	var carry uint64
	if away {
		t.low, carry = bits.Sub64(t.low, low, 0)
		t.high, _ = bits.Sub64(t.high, high, carry)
	} else {
		t.low, carry = bits.Add64(t.low, low, 0)
		t.high, _ = bits.Add64(t.high, high, carry)
	}
	return t
}

// narrow answers the sum, and whether 64 bits hold it.
func (t total) narrow() (int64, bool) {
	n := int64(t.low)
	return n, t.high == uint64(n>>63)
}
