package rows

import (
	"bytes"

	"tearoff/api"
)

// Tester is what a test tells its faults to.
type Tester interface {
	Helper()
	Errorf(format string, what ...any)
}

// Expect tells where bytes aren't those that they must be.
func Expect(t Tester, got, want []byte, what ...any) {
	t.Helper()
	if len(want) == 0 || !bytes.Equal(got, want) {
		t.Errorf("%v: %v bytes, %.40x.., not %v, %.40x..", what, len(got), got, len(want), want)
	}
}

// Nothing tells where bytes are there that may not be.
func Nothing(t Tester, got []byte, what ...any) {
	t.Helper()
	if len(got) != 0 {
		t.Errorf("%v: %v bytes, %.40x.., not nothing", what, len(got), got)
	}
}

// Unlike tells where bytes are the same that may not be, or are none.
func Unlike(t Tester, got, other []byte, what ...any) {
	t.Helper()
	if len(got) == 0 || bytes.Equal(got, other) {
		t.Errorf("%v: %v bytes, %.40x.., alike or none", what, len(got), got)
	}
}

// Yes: a row that tells whether it is so.
func Yes(so bool) []byte {
	if so {
		return []byte{1}
	}
	return nil
}

// Told: a row that tells a signature, and a code.
func Told(sig []byte, e api.Code) []byte { return append([]byte{byte(e)}, sig...) }
