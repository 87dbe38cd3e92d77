package wire

import (
	"errors"
	"hash/crc32"
	"math/rand"
	"reflect"
	"strings"
	"testing"

	"tidings/api"
	"tidings/code"
)

func entry(n int) api.Entry {
	e := api.Entry{Row: api.Row{Width: 1}, Weight: 1}
	e.Row.Cells[0] = api.Value{Kind: api.Int, Int: int64(n)}
	return e
}

func entries(n int) []api.Entry {
	var l []api.Entry
	for i := range n {
		l = append(l, entry(i))
	}
	return l
}

// long: entries that take as many bytes as any.
func long(n int) []api.Entry {
	var l []api.Entry
	for i := range n {
		v := api.Value{Kind: api.Bytes, Text: strings.Repeat("x", 15) + string([]byte{byte(i)})}
		l = append(l, api.Entry{Row: api.Row{Width: 4, Cells: [4]api.Value{v, v, v, v}}, Weight: -1 << 63})
	}
	return l
}

func TestWrittenBytes(t *testing.T) {
	for _, c := range []struct {
		m    Message
		want string
	}{
		{Message{Kind: Ask}, "\x01\x00\x00\x00\x00\x00"},
		{Message{Kind: Ask, Time: 1000}, "\x01\xe8\x03\x00\x00\x00"},
		{Message{Kind: Change, Time: 258, List: entries(1)}, "\x02\x02\x01\x00\x00\x01\x11\x03\x00\x02"},
		{Message{Kind: Piece, Time: 3, Place: 6, Count: 7}, "\x03\x03\x00\x06\x07\x00"},
	} {
		data := Write(c.m)
		body, sum := data[:len(data)-4], data[len(data)-4:]
		n := crc32.ChecksumIEEE([]byte(body))
		if body != c.want || sum != string([]byte{byte(n), byte(n >> 8), byte(n >> 16), byte(n >> 24)}) {
			t.Errorf("Write(%+v) = %x, want %x and its check %x", c.m, data, c.want, n)
		}
	}
}

func TestMessagesComeBack(t *testing.T) {
	var all []Message
	for _, time := range []int{0, 1, 255, 256, 999, 1000} {
		all = append(all, Message{Kind: Ask, Time: time},
			Message{Kind: Change, Time: time},
			Message{Kind: Change, Time: time, List: long(32)},
			Message{Kind: Piece, Time: time, Count: 1},
			Message{Kind: Piece, Time: time, Place: 7, Count: 8, List: long(16)})
	}
	for _, m := range all {
		data := Write(m)
		if len(data) < api.MinData || len(data) > api.MaxData {
			t.Errorf("%d bytes", len(data))
		}
		if got, err := Read(data); err != nil || !reflect.DeepEqual(got, m) {
			t.Errorf("%+v comes back as %+v, %v", m, got, err)
		}
	}
}

func TestReadRefusesWhatNobodySends(t *testing.T) {
	for _, m := range []Message{
		{Kind: 0},
		{Kind: 4},
		{Kind: 255},
		{Kind: Ask, Time: 1001},
		{Kind: Ask, Time: 65535},
		{Kind: Ask, Place: 1},
		{Kind: Ask, Count: 1},
		{Kind: Ask, List: entries(1)},
		{Kind: Change, Time: 1001},
		{Kind: Change, Time: 1, Place: 1},
		{Kind: Change, Time: 1, Count: 1},
		{Kind: Change, Time: 1, List: entries(33)},
		{Kind: Piece, Time: 1001, Count: 1},
		{Kind: Piece, Time: 1},
		{Kind: Piece, Time: 1, Count: 9},
		{Kind: Piece, Time: 1, Place: 8, Count: 8},
		{Kind: Piece, Time: 1, Place: 1, Count: 1},
		{Kind: Piece, Time: 1, Count: 1, List: entries(17)},
	} {
		if got, err := Read(Write(m)); !errors.Is(err, errMessage) || !reflect.DeepEqual(got, Message{}) {
			t.Errorf("%+v is read as %+v, %v", m, got, err)
		}
	}
	for _, body := range []string{
		"\x01\x00\x00\x00\x00",
		"\x01\x00\x00\x00\x00\x00\x00",
		"\x02\x01\x00\x00\x00\x01",
		"\x02\x01\x00\x00\x00\x01\x00\x01\x00\x02",
		"\x02\x01\x00\x00\x00" + strings.Repeat("\x00", 4096-9),
	} {
		if got, err := Read(seal(body)); !errors.Is(err, code.ErrBytes) || !reflect.DeepEqual(got, Message{}) {
			t.Errorf("%q is read as %+v, %v", body, got, err)
		}
	}
}

func TestReadTellsTheLength(t *testing.T) {
	for _, n := range []int{0, 1, 4, 5, 8, 4097, 5000, 1 << 20} {
		body := strings.Repeat("\x00", max(0, n-4))
		_, err := Read(seal(body)[:n])
		if !errors.Is(err, errLength) || !strings.HasPrefix(err.Error(), "length ") {
			t.Errorf("%d bytes: %v", n, err)
		}
	}
}

// missed answers by which bits the check of a text differs from the one that stands there.
func missed(data []byte) uint32 {
	body, sum := data[:len(data)-4], data[len(data)-4:]
	return check(string(body)) ^ (uint32(sum[0]) | uint32(sum[1])<<8 | uint32(sum[2])<<16 | uint32(sum[3])<<24)
}

// TestNoRunOf32BitsEscapes: what many bits do to the check is what each does by itself, taken together. So no change in a run of 32 bits escapes it, if none of them can be made of the others.
func TestNoRunOf32BitsEscapes(t *testing.T) {
	for _, m := range []Message{
		{Kind: Ask, Time: 7},
		{Kind: Change, Time: 999, List: entries(5)},
		{Kind: Piece, Time: 12, Place: 2, Count: 3, List: long(16)},
		{Kind: Change, Time: 1000, List: long(32)},
	} {
		data := []byte(Write(m))
		var bits []uint32
		for i := range 8 * len(data) {
			data[i/8] ^= 1 << (i % 8)
			bits = append(bits, missed(data))
			data[i/8] ^= 1 << (i % 8)
		}
		for i := range len(bits) - 31 {
			if !independent(bits[i : i+32]) {
				t.Fatalf("%d bytes: a run that begins at bit %d", len(data), i)
			}
		}
	}
}

// independent tells whether no number of the list can be made of others by exclusive or.
func independent(l []uint32) bool {
	var byTop [33]uint32
	for _, n := range l {
		for top := 32; top > 0; top-- {
			if n>>(top-1)&1 == 1 && byTop[top] != 0 {
				n ^= byTop[top]
			} else if n>>(top-1)&1 == 1 {
				byTop[top] = n
				break
			}
		}
		if n == 0 {
			return false
		}
	}
	return true
}

func TestSpoiledIsRefused(t *testing.T) {
	random := rand.New(rand.NewSource(31))
	for _, m := range []Message{{Kind: Ask, Time: 7}, {Kind: Change, Time: 1000, List: entries(9)}} {
		data := Write(m)
		for from := range 8 * len(data) {
			for range 300 {
				b := []byte(data)
				run := random.Uint32() | 1
				for i := from; i < min(from+32, 8*len(b)); i++ {
					b[i/8] ^= byte(run>>(i-from)&1) << (i % 8)
				}
				if _, err := Read(string(b)); !errors.Is(err, errSpoiled) {
					t.Fatalf("%x, spoiled to %x: %v", data, b, err)
				}
			}
		}
	}
}
