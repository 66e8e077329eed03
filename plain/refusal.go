package plain

import (
	"errors"
	"strconv"

	"tidemark/api"
)

// refusal is an error's number on its way to the face.
type refusal api.Errno

func (r refusal) Error() string {
	return "refused by " + strconv.Itoa(int(r))
}

// wrapped is an error, and what met it.
type wrapped struct {
	what  string
	cause error
}

func (w wrapped) Error() string {
	return w.what + ": " + w.cause.Error()
}

func (w wrapped) Unwrap() error {
	return w.cause
}

func wrap(what string, cause error) error {
	return wrapped{what: what, cause: cause}
}

// number tells what the face answers: OK where there is no refusal.
func number(err error) api.Errno {
	var r refusal
	if errors.As(err, &r) {
		return api.Errno(r)
	}
	return api.OK
}
