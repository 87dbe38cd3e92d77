package code

import (
	"errors"
	"math"
	"strings"
	"testing"

	"tidings/api"
	"tidings/fault"
)

func number(n int64) api.Value { return api.Value{Kind: api.Int, Int: n} }

func text(s string) api.Value { return api.Value{Kind: api.Bytes, Text: s} }

func entry(weight int64, values ...api.Value) api.Entry {
	e := api.Entry{Row: api.Row{Width: len(values)}, Weight: weight}
	copy(e.Row.Cells[:], values)
	return e
}

func TestWrittenBytes(t *testing.T) {
	yes := api.Value{Kind: api.Bool, Int: 1}
	for _, c := range []struct {
		l    []api.Entry
		want string
	}{
		{nil, "\x00"},
		{[]api.Entry{entry(1, number(-1))}, "\x01\x11\x03\x01\x02"},
		{[]api.Entry{entry(1, text("k"), number(1)), entry(-2, text("k"), number(64))}, "\x02\x21\x05k\x03\x02\x02\x03\x80\x01\x03"},
		{[]api.Entry{entry(1, api.Value{}), entry(2, api.Value{}, yes)}, "\x02\x00\x01\x00\x02\x02\x00\x02\x04"},
	} {
		s, err := Write(c.l)
		if s != c.want || err != nil {
			t.Errorf("Write(%v) = %x, %v, want %x", c.l, s, err, c.want)
		}
	}
}

func TestNumbersComeBack(t *testing.T) {
	for _, n := range []int64{0, 1, -1, 63, 64, -64, -65, 1 << 31, math.MaxInt64 - 1, math.MaxInt64, math.MinInt64 + 1, math.MinInt64} {
		b := appendNumber(nil, n)
		r := &reader{string(b)}
		if got, err := r.number(); got != n || err != nil || r.rest != "" || len(b) > 10 {
			t.Errorf("%d is written as %x and read as %d, %v", n, b, got, err)
		}
	}
}

func TestReadTellsWhatIsWrong(t *testing.T) {
	for _, c := range []struct {
		s    string
		want error
	}{
		{"", errEnd},
		{"\x01", errEnd},
		{"\x01\x11", errEnd},
		{"\x01\x11\x03\x01", errEnd},
		{"\x01\x11\x06a", errEnd},
		{"\x01\x00", errEnd},
		{"\x01\x11\x15", errTag},
		{"\x01\x11\xff", errTag},
		{"\x01\x11\x03" + strings.Repeat("\xff", 10) + "\x02", errNumber},
		{"\x01\x11\x03" + strings.Repeat("\xff", 9) + "\x03\x02", errAgain},
		{strings.Repeat("\x00", longest+1), errLength},
		{"\x00\x00", errAgain},
		{"\x01\x11\x03\x01\x02\x00", errAgain},
		{"\x01\x11\x03\x81\x00\x02", errAgain},
		{"\x01\x10\x03\x01\x02", errAgain},
		{"\x01\x19\x03\x01\x02", errAgain},
		{"\x01\x00\x01\x03\x01\x02", errAgain},
		{"\x01\x51\x03\x01\x02", fault.Number(api.ErrValue)},
		{"\x01\xff\x03\x01\x02", fault.Number(api.ErrValue)},
		{"\x01\x01\x02", fault.Number(api.ErrValue)},
		{"\x01\x00\x05\x03\x01\x02", fault.Number(api.ErrValue)},
		{"\x01\x00\x00\x02", fault.Number(api.ErrValue)},
		{"\x01\x11\x03\x01\x00", fault.Number(api.ErrOrder)},
		{"\x02\x10\x03\x02\x02\x03\x01\x02", fault.Number(api.ErrOrder)},
		{"\x02\x11\x03\x02\x02\x02", fault.Number(api.ErrOrder)},
		{"\x81\x10" + strings.Repeat("\x00\x02", 129), fault.Number(api.ErrMany)},
	} {
		l, err := Read(c.s)
		if l != nil || !errors.Is(err, ErrBytes) || !errors.Is(err, c.want) {
			t.Errorf("Read(%.20x) = %v, %v, want %v", c.s, l, err, c.want)
		}
	}
}

func TestErrorNamesThePlace(t *testing.T) {
	_, err := Read("\x02\x10\x03\x02\x02\x15")
	want := "bytes that no list is written as: entry 1: cell 0: no kind of value"
	if err == nil || err.Error() != want {
		t.Errorf("error %v, want %s", err, want)
	}
}
