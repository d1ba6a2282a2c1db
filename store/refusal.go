package store

import (
	"errors"
	"strconv"

	"isthmus/api"
)

// lower is what a layer below refused, by that layer's own number.
type lower api.Errno

func (l lower) Error() string {
	return "a layer below refused: " + strconv.Itoa(int(l))
}

// refusal is what the store refuses: the number that it tells, and what a layer below refused, where that is why.
type refusal struct {
	number api.Errno
	cause  error
}

func (r refusal) Error() string {
	return "the store refused: " + strconv.Itoa(int(r.number))
}

func (r refusal) Unwrap() error {
	return r.cause
}

// refused is an error of the store's own.
func refused(number api.Errno) error {
	return refusal{number: number}
}

// wrapped is what a layer below answered: none, if that was OK; else what it refused, within what the store tells in its place.
func wrapped(e, number api.Errno) error {
	if e == api.OK {
		return nil
	}
	return refusal{number: number, cause: lower(e)}
}

// told is the number of an error, as the face tells it.
func told(err error) api.Errno {
	var r refusal
	if errors.As(err, &r) {
		return r.number
	}
	return api.OK
}
