package tidings_test

import (
	"math/rand"
	"slices"
	"strings"
	"testing"

	"tidings/api"
	"tidings/tidings"
)

func TestEncodeErrors(t *testing.T) {
	one, two := number(1), number(2)
	none := entry(0, truth(2))
	for k, c := range []struct {
		l    []api.Entry
		want api.Errno
	}{
		{list(entry(1, two), entry(1, one)), api.ErrOrder},
		{list(entry(1, one), entry(1, one)), api.ErrOrder},
		{list(entry(0, one)), api.ErrOrder},
		{list(entry(1, one), entry(0, two)), api.ErrOrder},
		{list(entry(1, one, null()), entry(1, one)), api.ErrOrder},
		{list(entry(1, two), entry(1, one), none), api.ErrValue},
		{slices.Repeat(list(entry(1, one)), 129), api.ErrMany},
		{append(slices.Repeat(list(entry(1, one)), 129), none), api.ErrValue},
		{slices.Repeat(list(entry(1, one)), 128), api.ErrOrder},
	} {
		if s, e := tidings.Encode(c.l); e != c.want || s != "" {
			t.Errorf("P5: line %d: Encode = %x, %d, want %d", k, s, e, c.want)
		}
	}
	for k, l := range noRows() {
		if s, e := tidings.Encode(l); e != api.ErrValue || s != "" {
			t.Errorf("P5: row %d: Encode = %x, %d", k, s, e)
		}
	}
}

// wantCode checks P5 and P6 of a list in order, and answers its bytes.
func wantCode(t *testing.T, l []api.Entry) string {
	t.Helper()
	s, e := tidings.Encode(l)
	if e != api.OK || s == "" {
		t.Fatalf("P5: Encode(%v) = %x, %d", l, s, e)
	}
	if bound := lengthBound(l); len(s) > bound {
		t.Fatalf("P6: Encode(%v): %d bytes, at most %d", l, len(s), bound)
	}
	out, e := tidings.Decode(s)
	if e != api.OK || !slices.Equal(out, l) {
		t.Fatalf("P5: Decode(%x) = %v, %d, want %v", s, out, e, l)
	}
	wantInOrder(t, out)
	return s
}

// lengthBound is the lesser one of P6's two bounds, of those that apply.
func lengthBound(l []api.Entry) int {
	n := len(l)
	bound := 24 + 90*n
	if n == 0 {
		return bound
	}
	w, c := l[0].Row.Width, 0
	if slices.ContainsFunc(l, func(e api.Entry) bool { return e.Row.Width != w }) {
		return bound
	}
	for i := range w {
		if !slices.ContainsFunc(l, func(e api.Entry) bool { return e.Row.Cells[i] != l[0].Row.Cells[i] }) {
			c++
		}
	}
	return min(bound, 24+24*c+(18*(w-c)+11)*n)
}

// longValue is as long as values get, and rises with n.
func longValue(n int, asText bool) api.Value {
	if asText {
		return text(string([]byte{byte(n)}) + strings.Repeat("\xff", 15))
	}
	return number(int64(least + n))
}

// TestLongestLists: P6 at every width, every choice of columns that are the same, and both ends of n.
func TestLongestLists(t *testing.T) {
	for _, n := range []int{0, 1, 2, 3, 32, 127, 128} {
		for w := 1; w <= api.MaxColumns; w++ {
			for same := range 1 << w {
				if n > 1 && same == 1<<w-1 {
					continue
				}
				wantCode(t, longList(n, w, same, true))
				wantCode(t, longList(n, w, same, false))
			}
		}
	}
}

func longList(n, w, same int, asText bool) []api.Entry {
	var l []api.Entry
	for i := range n {
		var values []api.Value
		for k := range w {
			if same>>k&1 == 1 {
				values = append(values, longValue(200, asText))
			} else {
				values = append(values, longValue(i, asText))
			}
		}
		l = append(l, entry(least, values...))
	}
	return l
}

func TestLongestListOfSeveralWidths(t *testing.T) {
	var l []api.Entry
	for i := range 128 {
		values := slices.Repeat([]api.Value{longValue(i, true)}, 4)
		l = append(l, entry(most, values[:4-i%2]...))
	}
	wantCode(t, l)
}

func TestCodeOfExamples(t *testing.T) {
	wantCode(t, nil)
	var l []api.Entry
	for i := range 32 {
		l = append(l, entry(1, text("0123456789abcdef"), number(int64(i)<<58)))
	}
	slices.SortFunc(l, func(a, b api.Entry) int { return strings.Compare(sortKey(a.Row), sortKey(b.Row)) })
	if s := wantCode(t, l); len(s) > 24+24+29*32 {
		t.Errorf("P6: %d bytes", len(s))
	}
}

// TestCodesDiffer: P5: the bytes of different lists differ, and all read back.
func TestCodesDiffer(t *testing.T) {
	random := rand.New(rand.NewSource(13))
	lists := map[string][]api.Entry{}
	for range 3000 {
		l, e := tidings.Normal(randomList(random, 20))
		if e != api.OK {
			continue
		}
		s := wantCode(t, l)
		if was, ok := lists[s]; ok && !slices.Equal(was, l) {
			t.Fatalf("P5: %x stands for %v and %v", s, was, l)
		}
		lists[s] = l
	}
}

// wantReading checks P5 of any bytes.
func wantReading(t *testing.T, s string) {
	t.Helper()
	l, e := tidings.Decode(s)
	if e != api.OK {
		if e != api.ErrCode || len(l) != 0 {
			t.Fatalf("P5: Decode(%x) = %v, %d", s, l, e)
		}
		return
	}
	wantInOrder(t, l)
	if again, e := tidings.Encode(l); e != api.OK || again != s {
		t.Fatalf("P5: Decode(%x) = %v, which is written as %x, %d", s, l, again, e)
	}
}

func TestDecodeOfSpoiledBytes(t *testing.T) {
	random := rand.New(rand.NewSource(17))
	for range 200 {
		l, e := tidings.Normal(randomList(random, 6))
		if e != api.OK {
			continue
		}
		s := wantCode(t, l)
		for i := range s {
			for _, b := range []byte{0, 1, 2, 3, 4, 0x10, 0x7f, 0x80, 0xff, s[i] + 1, s[i] - 1, s[i] ^ 0x80, byte(random.Intn(256))} {
				wantReading(t, s[:i]+string([]byte{b})+s[i+1:])
			}
			wantReading(t, s[:i])
			wantReading(t, s[:i]+s[i+1:])
			wantReading(t, s[:i]+"\x00"+s[i:])
		}
		wantReading(t, s+"\x00")
		wantReading(t, s+s)
	}
}

func TestDecodeOfAllShortBytes(t *testing.T) {
	wantReading(t, "")
	for n := range 1 << 16 {
		wantReading(t, string([]byte{byte(n)}))
		wantReading(t, string([]byte{byte(n), byte(n >> 8)}))
		wantReading(t, string([]byte{1, byte(n), byte(n >> 8), 2}))
	}
}

func TestDecodeOfManyBytes(t *testing.T) {
	for _, b := range []string{"\x00", "\x01", "\x10", "\x80", "\xff"} {
		for _, n := range []int{11544, 11545, 9000000} {
			if l, e := tidings.Decode(strings.Repeat(b, n)); e != api.ErrCode || len(l) != 0 {
				t.Errorf("P5: Decode of %d bytes %x: %d entries, %d", n, b, len(l), e)
			}
		}
	}
}

func FuzzDecode(f *testing.F) {
	f.Add("")
	for _, l := range [][]api.Entry{nil, longList(3, 2, 1, true), list(entry(1, null()), entry(-2, null(), text("a")))} {
		s, _ := tidings.Encode(l)
		f.Add(s)
	}
	f.Fuzz(func(t *testing.T, s string) { wantReading(t, s) })
}
