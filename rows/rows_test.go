package rows_test

import (
	"bytes"
	"slices"
	"testing"

	"tearoff/rows"
)

// Apart tells of each way in which a call can fail to keep its answer apart, and of none where it doesn't.
func TestApart(t *testing.T) {
	var kept []byte
	keep := func(b []byte) []byte {
		if kept == nil {
			kept = bytes.Clone(b)
		}
		return kept
	}
	for _, c := range []struct {
		what, want string
		call       func(in [][]byte) []byte
	}{
		{"a copy", "", func(in [][]byte) []byte { return bytes.Clone(in[1]) }},
		{"nothing", "", func([][]byte) []byte { return nil }},
		{"a row written over", "changes what is handed in", func(in [][]byte) []byte { in[0][0]++; return nil }},
		{"spare room written over", "changes what is handed in", func(in [][]byte) []byte { return bytes.Clone(append(in[1], 1)) }},
		{"spare room read", "hangs on spare room", func(in [][]byte) []byte { return bytes.Clone(in[1][:cap(in[1])]) }},
		{"the row itself", "shares its answer", func(in [][]byte) []byte { return in[0] }},
		{"an empty piece of a row", "shares its answer", func(in [][]byte) []byte { return in[0][:0] }},
		{"one answer for all", "shares its answer", func(in [][]byte) []byte { return keep(in[0]) }},
	} {
		if got := rows.Apart(c.call, []byte("abc"), []byte("de")); got != c.want {
			t.Errorf("%v: %q, not %q", c.what, got, c.want)
		}
	}
}

// ApartList tells of each way in which a call can fail to keep the rows of its answer apart, and of none where it doesn't.
func TestApartList(t *testing.T) {
	for _, c := range []struct {
		what, want string
		call       func(in [][]byte) [][]byte
	}{
		{"copies", "", func(in [][]byte) [][]byte {
			return [][]byte{bytes.Clone(in[0]), bytes.Clone(in[1]), bytes.Clone(in[1])}
		}},
		{"nothing", "", func([][]byte) [][]byte { return nil }},
		{"the first row itself", "shares its answer", func(in [][]byte) [][]byte { return [][]byte{in[0], bytes.Clone(in[1])} }},
		{"the last row itself", "shares its answer", func(in [][]byte) [][]byte { return [][]byte{bytes.Clone(in[0]), in[1]} }},
		{"a row written over", "changes what is handed in", func(in [][]byte) [][]byte { in[1][0]++; return [][]byte{nil} }},
		{"one row twice", "shares rows of its answer", func(in [][]byte) [][]byte { b := bytes.Clone(in[0]); return [][]byte{b, nil, b} }},
		{"rows of one row", "shares rows of its answer", func(in [][]byte) [][]byte { b := bytes.Clone(in[0]); return [][]byte{b[:1], b[1:]} }},
	} {
		if got := rows.ApartList(c.call, []byte("abc"), []byte("de")); got != c.want {
			t.Errorf("%v: %q, not %q", c.what, got, c.want)
		}
	}
}

// faults counts what a test is told.
type faults int

func (f *faults) Helper() {}

func (f *faults) Errorf(string, ...any) { *f++ }

// Expect, Nothing, Unlike and ExpectWay tell where rows aren't what they must be, and only there.
func TestExpect(t *testing.T) {
	a, b := []byte("a"), []byte("b")
	for _, c := range []struct {
		what string
		tell func(t rows.Tester)
		want faults
	}{
		{"Expect, the same", func(t rows.Tester) { rows.Expect(t, a, []byte("a")) }, 0},
		{"Expect, another", func(t rows.Tester) { rows.Expect(t, a, b) }, 1},
		{"Expect, longer", func(t rows.Tester) { rows.Expect(t, []byte("aa"), a) }, 1},
		{"Expect, of nothing nothing", func(t rows.Tester) { rows.Expect(t, nil, nil) }, 1},
		{"Nothing, nil", func(t rows.Tester) { rows.Nothing(t, nil) }, 0},
		{"Nothing, empty", func(t rows.Tester) { rows.Nothing(t, []byte{}) }, 0},
		{"Nothing, a byte", func(t rows.Tester) { rows.Nothing(t, a) }, 1},
		{"Unlike, another", func(t rows.Tester) { rows.Unlike(t, a, b) }, 0},
		{"Unlike, the same", func(t rows.Tester) { rows.Unlike(t, a, []byte("a")) }, 1},
		{"Unlike, nothing", func(t rows.Tester) { rows.Unlike(t, nil, a) }, 1},
		{"ExpectWay, the same", func(t rows.Tester) { rows.ExpectWay(t, [][]byte{a, b}, [][]byte{[]byte("a"), b}) }, 0},
		{"ExpectWay, another sum", func(t rows.Tester) { rows.ExpectWay(t, [][]byte{a, a}, [][]byte{a, b}) }, 1},
		{"ExpectWay, a sum too few", func(t rows.Tester) { rows.ExpectWay(t, [][]byte{a}, [][]byte{a, b}) }, 1},
		{"ExpectWay, of nothing nothing", func(t rows.Tester) { rows.ExpectWay(t, nil, nil) }, 1},
	} {
		var got faults
		if c.tell(&got); got != c.want {
			t.Errorf("%v: %v faults, not %v", c.what, got, c.want)
		}
	}
}

// Bits, FromBits and Digits read off letters.
func TestLetters(t *testing.T) {
	if got := rows.Bits([]byte{0, 1, 0x80, 0xb4}); got != "00000000"+"00000001"+"10000000"+"10110100" {
		t.Errorf("Bits: %v", got)
	}
	for text, want := range map[string]uint64{"": 0, "0": 0, "101": 5, "0000110": 6} {
		if got := rows.FromBits(text); got != want {
			t.Errorf("FromBits, %q: %v, not %v", text, got, want)
		}
	}
	// They lack 15 + 0 + 13 + 11, 39, which is 0x027.
	if got := rows.Digits([]byte{0x0f, 0x24}); !slices.Equal(got, []int{0, 15, 2, 4, 0, 2, 7}) {
		t.Errorf("Digits: %v", got)
	}
}
