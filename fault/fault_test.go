package fault_test

import (
	"errors"
	"fmt"
	"math"
	"runtime"
	"strings"
	"testing"

	"lexiphane/api"
	"lexiphane/fault"
)

// names are the words of P101, each at its code's number.
var names = strings.Fields("ok arg more form range dict wrong sum code token size state length behind")

// places are ordinary places and the ends of what an int holds, with their digits.
var places = []struct {
	at     int
	digits string
}{
	{0, "0"}, {1, "1"}, {7, "7"}, {10, "10"}, {1024, "1024"}, {math.MaxInt32, "2147483647"}, {math.MaxInt64, "9223372036854775807"},
	{-1, "-1"}, {-12, "-12"}, {math.MinInt32, "-2147483648"}, {math.MinInt64, "-9223372036854775808"},
}

// strange are codes that have no number in package api.
var strange = []api.Errno{-1, -7, 14, 15, 99, 256, math.MaxInt64, math.MinInt64}

// holder wraps a fault as a part: its methods are a fault's, but it is none.
type holder struct{ fault.Fault }

// poser says of itself that it is a fault, to errors.Is and errors.As.
type poser struct{}

func (poser) Error() string   { return "sum at 7" }
func (poser) Is(_ error) bool { return true }
func (poser) As(target any) bool {
	if f, ok := target.(*fault.Fault); ok {
		*f = fault.Fault{Code: api.ErrSum, At: 7}
		return true
	}
	return false
}

// notFaults are errors that are no Fault themselves, with nil left aside.
func notFaults() map[string]error {
	f := fault.Fault{Code: api.ErrSum, At: 7}
	return map[string]error{
		"errors.New":    errors.New("sum at 7"),
		"Other":         fault.Other{Words: "sum at 7"},
		"zero Other":    fault.Other{},
		"Other pointer": &fault.Other{Words: "sum at 7"},
		"pointer":       &f,
		"nil pointer":   (*fault.Fault)(nil),
		"wrapped":       fmt.Errorf("at the end: %w", f),
		"joined":        errors.Join(f),
		"embedded":      holder{f},
		"poser":         poser{},
	}
}

func allCodes() []api.Errno {
	var l []api.Errno
	for k := range names {
		l = append(l, api.Errno(k))
	}
	return append(l, strange...)
}

func TestP101NewIsNilOfOK(t *testing.T) {
	for _, p := range places {
		if err := fault.New(api.OK, p.at); err != nil {
			t.Errorf("New(OK, %d): %#v, not nil", p.at, err)
		}
	}
}

func TestP101NewIsAFaultOfBoth(t *testing.T) {
	for _, code := range allCodes() {
		if code == api.OK {
			continue
		}
		for _, p := range places {
			got, ok := fault.New(code, p.at).(fault.Fault)
			if want := (fault.Fault{Code: code, At: p.at}); !ok || got != want {
				t.Errorf("New(%d, %d): %#v, %v", code, p.at, got, ok)
			}
		}
	}
}

func TestP101OfTellsFaults(t *testing.T) {
	for _, code := range allCodes() { // OK, too: a Fault that New would not make is one all the same
		for _, p := range places {
			want := fault.Fault{Code: code, At: p.at}
			if got, ok := fault.Of(want); !ok || got != want {
				t.Errorf("Of(%#v): %#v, %v", want, got, ok)
			}
		}
	}
	if got, ok := fault.Of(fault.New(api.ErrMore, 3)); !ok || got != (fault.Fault{Code: api.ErrMore, At: 3}) {
		t.Errorf("Of(New(ErrMore, 3)): %#v, %v", got, ok)
	}
}

func TestP101OfTellsNothingOfOthers(t *testing.T) {
	if got, ok := fault.Of(nil); ok || got != (fault.Fault{}) {
		t.Errorf("Of(nil): %#v, %v", got, ok)
	}
	if got, ok := fault.Of(fault.New(api.OK, 7)); ok || got != (fault.Fault{}) {
		t.Errorf("Of(New(OK, 7)): %#v, %v", got, ok)
	}
	for what, err := range notFaults() {
		if got, ok := fault.Of(err); ok || got != (fault.Fault{}) {
			t.Errorf("Of of %s: %#v, %v", what, got, ok)
		}
	}
}

func TestP101Code(t *testing.T) {
	if got := fault.Code(nil); got != api.OK {
		t.Errorf("Code(nil): %d", got)
	}
	for _, code := range allCodes() {
		if got := fault.Code(fault.New(code, 5)); got != code {
			t.Errorf("Code(New(%d, 5)): %d", code, got)
		}
		if got := fault.Code(fault.Fault{Code: code, At: -5}); got != code {
			t.Errorf("Code of a Fault of %d: %d", code, got)
		}
	}
	for what, err := range notFaults() {
		if got := fault.Code(err); got != api.ErrState {
			t.Errorf("Code of %s: %d, not ErrState", what, got)
		}
	}
}

func TestP101MustTellsFaults(t *testing.T) {
	for _, code := range allCodes() {
		for _, p := range places {
			want := fault.Fault{Code: code, At: p.at}
			if got := fault.Must(want); got != want {
				t.Errorf("Must(%#v): %#v", want, got)
			}
		}
	}
	if got := fault.Must(fault.New(api.ErrMore, 3)); got != (fault.Fault{Code: api.ErrMore, At: 3}) {
		t.Errorf("Must(New(ErrMore, 3)): %#v", got)
	}
}

// panicOf tells with what Must panics; nil: it does not.
func panicOf(err error) (told any) {
	defer func() { told = recover() }()
	fault.Must(err)
	return nil
}

func TestP101MustPanicsOfOthers(t *testing.T) {
	all := notFaults()
	all["nil"] = nil
	all["New(OK, 7)"] = fault.New(api.OK, 7)
	for what, err := range all {
		told := panicOf(err)
		if _, ok := told.(*runtime.TypeAssertionError); !ok {
			t.Errorf("Must of %s panics with %#v, not with an assertion's error", what, told)
		}
	}
}

func TestP101ErrorOfFaults(t *testing.T) {
	for _, code := range allCodes() {
		name := "error"
		if code >= 0 && int(code) < len(names) {
			name = names[code]
		}
		for _, p := range places {
			want := name + " at " + p.digits
			if got := (fault.Fault{Code: code, At: p.at}).Error(); got != want {
				t.Errorf("Error: %q, not %q", got, want)
			}
		}
	}
	if got := fault.New(api.ErrSum, 7).Error(); got != "sum at 7" {
		t.Errorf("New(ErrSum, 7).Error(): %q", got)
	}
	if got := (fault.Fault{}).Error(); got != "ok at 0" {
		t.Errorf("Error of a zero Fault: %q", got)
	}
}

func TestP101ErrorOfOthersIsTheirWords(t *testing.T) {
	for _, words := range []string{"", "x", "a b", " sum at 7 ", "%d\n", "\x00\xff\x80", strings.Repeat("long ", 1000)} {
		if got := (fault.Other{Words: words}).Error(); got != words {
			t.Errorf("Error of Other{%q}: %q", words, got)
		}
	}
}

func TestP101Name(t *testing.T) {
	codes := []api.Errno{api.OK, api.ErrArg, api.ErrMore, api.ErrForm, api.ErrRange, api.ErrDict, api.ErrWrong, api.ErrSum, api.ErrCode, api.ErrToken, api.ErrSize, api.ErrState, api.ErrLength, api.ErrBehind}
	if len(codes) != len(names) {
		t.Fatalf("%d codes, %d names", len(codes), len(names))
	}
	for k, code := range codes {
		if int(code) != k {
			t.Errorf("code %s is %d, not %d", names[k], code, k)
		}
		if got := fault.Name(code); got != names[k] {
			t.Errorf("Name(%d): %q, not %q", code, got, names[k])
		}
	}
	for _, code := range strange {
		if got := fault.Name(code); got != "error" {
			t.Errorf("Name(%d): %q, not \"error\"", code, got)
		}
	}
}
