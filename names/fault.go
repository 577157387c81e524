package names

import (
	"errors"
	"strconv"

	"deadbolt/api"
)

// placed is an error that has a place.
type placed struct {
	at  int
	why error
}

func (p placed) Error() string { return p.why.Error() + " at " + strconv.Itoa(p.at) }

func (p placed) Unwrap() error { return p.why }

// told is what a face says of an error: its place, 0 if it has none, and its number; OK, if there is no error.
func told(err error) (at int, e api.Errno) {
	var p placed
	if errors.As(err, &p) {
		at = p.at
	}
	errors.As(err, &e)
	return at, e
}

// caught looks at something, and is the fault that the look ended with; nil, if it came to its end.
func caught(look func()) (err error) {
	defer func() {
		thrown := recover()
		if thrown == nil {
			return
		}
		if f, is := thrown.(error); is && isFault(f) {
			err = f
			return
		}
		// Not the program's fault: to answer it as one would hide it.
		panic(thrown)
	}()
	look()
	return nil
}

// isFault tells whether an error is one that a program may have.
func isFault(err error) bool {
	return errors.Is(err, api.ErrLong) || errors.Is(err, api.ErrTwice) ||
		errors.Is(err, api.ErrName) || errors.Is(err, api.ErrMain)
}
