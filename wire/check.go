package wire

// polynomial is that of CRC-32, its highest power as the lowest bit. What is spoiled is a run of bits from the lowest one of a byte on: only if the check takes them in that order, and stands behind them in that order too, no run of 32 bits escapes it.
const polynomial = 0xedb88320

// seal lays the check of bytes behind them.
func seal(body string) string {
	c := check(body)
	return body + string([]byte{byte(c), byte(c >> 8), byte(c >> 16), byte(c >> 24)})
}

// check is not 0 at first, so that zeros ahead of the other bytes count as well.
func check(body string) uint32 {
	c := ^uint32(0)
	for i := range len(body) {
		c ^= uint32(body[i])
		for range 8 {
			c = c>>1 ^ polynomial&-(c&1)
		}
	}
	return ^c
}
