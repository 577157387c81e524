package names

import (
	"errors"
	"strings"
	"testing"

	"deadbolt/api"
)

// P4: a fault's place and number, however deep it is wrapped; of none, zero values.
func TestTold(t *testing.T) {
	for _, x := range []struct {
		err error
		at  int
		e   api.Errno
	}{
		{nil, 0, api.OK}, {api.ErrLong, 0, api.ErrLong}, {placed{7, api.ErrName}, 7, api.ErrName}, {placed{0, api.ErrTwice}, 0, api.ErrTwice},
		{placed{-3, placed{9, api.ErrForm}}, -3, api.ErrForm}, {errors.Join(errors.New("x"), placed{4, api.ErrToken}), 4, api.ErrToken},
	} {
		if at, e := told(x.err); at != x.at || e != x.e {
			t.Errorf("told(%v): %v at %d", x.err, e, at)
		}
	}
	if s := (placed{12, api.ErrName}).Error(); s != "name at 12" {
		t.Errorf("Error: %q", s)
	}
}

// thrownBy is what a call panics with; nil, if it does not.
func thrownBy(call func()) (thrown any) {
	defer func() { thrown = recover() }()
	call()
	return nil
}

// A program's faults are caught; a mistake of the code is not answered as one.
func TestCaught(t *testing.T) {
	if err := caught(func() {}); err != nil {
		t.Errorf("a look that came to its end: %v", err)
	}
	for _, err := range []error{api.ErrLong, api.ErrMain, placed{3, api.ErrTwice}, placed{0, api.ErrName}, placed{1, placed{2, api.ErrMain}}} {
		if got := caught(func() { panic(err) }); got != err {
			t.Errorf("caught %v, not %v", got, err)
		}
	}
	other := errors.New("name")
	for _, x := range []any{"text", 9, other, api.OK, api.ErrArg, api.ErrForm, placed{3, api.ErrToken}, placed{3, other}} {
		if got := thrownBy(func() { caught(func() { panic(x) }) }); got != x {
			t.Errorf("%v was thrown, and %v came through", x, got)
		}
	}
	var none []int
	got, _ := thrownBy(func() { caught(func() { none[0]++ }) }).(error)
	if got == nil || !strings.Contains(got.Error(), "index out of range") {
		t.Errorf("a mistake was caught; %v came through", got)
	}
}
