// Package leave is how a call of a layer leaves where something is wrong: by a panic, which the call takes back at its end, and by which it tells the code.
package leave

import "tearoff/api"

// wrong is what leaves a call that can't be. It is a type of its own, so that no other panic is taken for it.
type wrong struct {
	code api.Code
}

// Need leaves by a panic, if what must be isn't so.
func Need(so bool, code api.Code) {
	if !so {
		panic(wrong{code})
	}
}

// Must: what another call answers. It leaves by a panic, if that call's code isn't OK.
func Must[T any](x T, e api.Code) T {
	Done(e)
	return x
}

// Done: another call, that answers nothing but its code, came to be. It leaves by a panic, if the code isn't OK.
func Done(e api.Code) { Need(e == api.OK, e) }

// Told: the code that is in what was taken back; OK, if nothing was. A panic that isn't Need's goes on.
func Told(taken any) api.Code {
	switch x := taken.(type) {
	case nil:
		return api.OK
	case wrong:
		return x.code
	default:
		panic(x)
	}
}
