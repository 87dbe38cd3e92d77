package fault

import (
	"errors"
	"testing"

	"tidings/api"
)

func TestPlacesKeepTheNumber(t *testing.T) {
	for n := api.ErrValue; n <= api.ErrFull; n++ {
		err := At("list", 1, At("entry", 3, Number(n)))
		var got Number
		if !errors.As(err, &got) || api.Errno(got) != n {
			t.Errorf("errors.As finds %d in %q, want %d", got, err, n)
		}
		if !errors.Is(err, Number(n)) || errors.Is(err, Number(n+1)) {
			t.Errorf("errors.Is does not tell %d in %q", n, err)
		}
	}
}

func TestTextNamesThePlaces(t *testing.T) {
	for _, c := range []struct {
		err  error
		want string
	}{
		{At("entry", 3, At("cell", 0, Number(api.ErrValue))), "entry 3: cell 0: no value"},
		{Number(api.ErrMany), "too many entries"},
		{Number(api.ErrWeight), "a weight that 64 bits do not hold"},
		{Number(api.ErrOrder), "not in order"},
		{Number(api.ErrFiles), "files that no source has left behind"},
		{Number(api.ErrTime), "a time that is not kept"},
		{Number(api.ErrFull), "no more room"},
		{Number(99), "error 99"},
	} {
		if c.err.Error() != c.want {
			t.Errorf("text %q, want %q", c.err.Error(), c.want)
		}
	}
}

func TestNothingWrongStaysNil(t *testing.T) {
	if err := At("entry", 0, nil); err != nil {
		t.Errorf("At of nil is %v", err)
	}
	if err := Under(Number(api.ErrFiles), nil); err != nil {
		t.Errorf("Under with nil is %v", err)
	}
}

func TestHeadAndWhatIsUnderIt(t *testing.T) {
	err := At("file", 1, Under(Number(api.ErrFiles), At("change", 2, Number(api.ErrMany))))
	if want := "file 1: files that no source has left behind: change 2: too many entries"; err.Error() != want {
		t.Errorf("text %q, want %q", err, want)
	}
	for n := api.ErrValue; n <= api.ErrFull; n++ {
		if errors.Is(err, Number(n)) != (n == api.ErrFiles || n == api.ErrMany) {
			t.Errorf("errors.Is does not tell %d in %q", n, err)
		}
	}
	var first Number
	if !errors.As(err, &first) || first != Number(api.ErrFiles) {
		t.Errorf("errors.As finds %d first", first)
	}
}
