package leave_test

import (
	"errors"
	"testing"

	"tearoff/api"
	"tearoff/leave"
)

// taken: the code by which a call left; OK, if it went to its end.
func taken(call func()) (e api.Code) {
	defer func() { e = leave.Told(recover()) }()
	call()
	return api.OK
}

// codes: all codes but OK.
func codes() []api.Code {
	var out []api.Code
	for e := api.Arg; e <= api.Retired; e++ {
		out = append(out, e)
	}
	return out
}

// Need leaves by its code where something isn't so, and only there.
func TestNeed(t *testing.T) {
	for _, e := range codes() {
		if got := taken(func() { leave.Need(false, e) }); got != e {
			t.Errorf("Need(false, %v): %v", e, got)
		}
		if got := taken(func() { leave.Need(true, e) }); got != api.OK {
			t.Errorf("Need(true, %v): %v", e, got)
		}
	}
}

// Need leaves ahead of what stands behind it: the first one tells.
func TestFirstTells(t *testing.T) {
	behind := false
	got := taken(func() {
		leave.Need(false, api.Short)
		behind = true
		leave.Need(false, api.Length)
	})
	if got != api.Short || behind {
		t.Errorf("two that aren't so: %v, gone on: %v", got, behind)
	}
}

// Must answers what it was handed, or leaves by the code.
func TestMust(t *testing.T) {
	if got := leave.Must("it", api.OK); got != "it" {
		t.Errorf("Must: %q", got)
	}
	for _, e := range codes() {
		if got := taken(func() { leave.Must(7, e) }); got != e {
			t.Errorf("Must(7, %v): %v", e, got)
		}
	}
}

// Done leaves by each code but OK.
func TestDone(t *testing.T) {
	for _, e := range append(codes(), api.OK) {
		if got := taken(func() { leave.Done(e) }); got != e {
			t.Errorf("Done(%v): %v", e, got)
		}
	}
}

// Told lets every panic go on that isn't Need's, as it was.
func TestOthersGoOn(t *testing.T) {
	for _, x := range []any{"a text", api.Arg, 7, errors.New("an error"), struct{ code api.Code }{api.Arg}} {
		func() {
			defer func() {
				if got := recover(); got != x {
					t.Errorf("a panic of %v went on as %v", x, got)
				}
			}()
			taken(func() { panic(x) })
			t.Errorf("a panic of %v was taken back", x)
		}()
	}
}
