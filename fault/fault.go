// Package fault has errors that tell what, and where.
package fault

import (
	"strconv"

	"lexiphane/api"
)

// Fault is an error at a place.
type Fault struct {
	Code api.Errno
	At   int
}

// Error tells it in words.
func (f Fault) Error() string { return Name(f.Code) + " at " + strconv.Itoa(f.At) }

// Other is an error of words.
type Other struct{ Words string }

// Error tells it in words.
func (o Other) Error() string { return o.Words }

// New makes a fault; nil of OK, so that callers may hand on a code that is none.
func New(code api.Errno, at int) error {
	if code == api.OK {
		return nil
	}
	return Fault{Code: code, At: at}
}

// Of tells an error's fault: err itself alone counts, not what it wraps, nor a pointer to a fault.
func Of(err error) (Fault, bool) {
	f, ok := err.(Fault)
	return f, ok
}

// Code tells an error's code; an error that is no fault has none of its own, and counts as ErrState.
func Code(err error) api.Errno {
	if err == nil {
		return api.OK
	}
	if f, ok := Of(err); ok {
		return f.Code
	}
	return api.ErrState
}

// Must tells an error's fault, or panics: it is for callers that know that there is one.
func Must(err error) Fault { return err.(Fault) }

// Name tells a code's name.
func Name(code api.Errno) string {
	switch code {
	case api.OK:
		return "ok"
	case api.ErrArg:
		return "arg"
	case api.ErrMore:
		return "more"
	case api.ErrForm:
		return "form"
	case api.ErrRange:
		return "range"
	case api.ErrDict:
		return "dict"
	case api.ErrWrong:
		return "wrong"
	case api.ErrSum:
		return "sum"
	case api.ErrCode:
		return "code"
	case api.ErrToken:
		return "token"
	case api.ErrSize:
		return "size"
	case api.ErrState:
		return "state"
	case api.ErrLength:
		return "length"
	case api.ErrBehind:
		return "behind"
	}
	return "error"
}
