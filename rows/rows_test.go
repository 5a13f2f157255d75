package rows_test

import (
	"bytes"
	"testing"

	"tearoff/rows"
)

// Apart tells of each way in which a call can fail to keep its answer apart, and of none where it doesn't.
func TestApart(t *testing.T) {
	var kept []byte
	keep := func(b []byte) []byte {
		if kept == nil {
			kept = bytes.Clone(b)
		}
		return kept
	}
	for _, c := range []struct {
		what, want string
		call       func(in [][]byte) []byte
	}{
		{"a copy", "", func(in [][]byte) []byte { return bytes.Clone(in[1]) }},
		{"nothing", "", func([][]byte) []byte { return nil }},
		{"a row written over", "changes what is handed in", func(in [][]byte) []byte { in[0][0]++; return nil }},
		{"spare room written over", "changes what is handed in", func(in [][]byte) []byte { return bytes.Clone(append(in[1], 1)) }},
		{"spare room read", "hangs on spare room", func(in [][]byte) []byte { return bytes.Clone(in[1][:cap(in[1])]) }},
		{"the row itself", "shares its answer", func(in [][]byte) []byte { return in[0] }},
		{"an empty piece of a row", "shares its answer", func(in [][]byte) []byte { return in[0][:0] }},
		{"one answer for all", "shares its answer", func(in [][]byte) []byte { return keep(in[0]) }},
	} {
		if got := rows.Apart(c.call, []byte("abc"), []byte("de")); got != c.want {
			t.Errorf("%v: %q, not %q", c.what, got, c.want)
		}
	}
}

// ApartList tells of each way in which a call can fail to keep the rows of its answer apart, and of none where it doesn't.
func TestApartList(t *testing.T) {
	for _, c := range []struct {
		what, want string
		call       func(in [][]byte) [][]byte
	}{
		{"copies", "", func(in [][]byte) [][]byte {
			return [][]byte{bytes.Clone(in[0]), bytes.Clone(in[1]), bytes.Clone(in[1])}
		}},
		{"nothing", "", func([][]byte) [][]byte { return nil }},
		{"the first row itself", "shares its answer", func(in [][]byte) [][]byte { return [][]byte{in[0], bytes.Clone(in[1])} }},
		{"the last row itself", "shares its answer", func(in [][]byte) [][]byte { return [][]byte{bytes.Clone(in[0]), in[1]} }},
		{"a row written over", "changes what is handed in", func(in [][]byte) [][]byte { in[1][0]++; return [][]byte{nil} }},
		{"one row twice", "shares rows of its answer", func(in [][]byte) [][]byte { b := bytes.Clone(in[0]); return [][]byte{b, nil, b} }},
		{"rows of one row", "shares rows of its answer", func(in [][]byte) [][]byte { b := bytes.Clone(in[0]); return [][]byte{b[:1], b[1:]} }},
	} {
		if got := rows.ApartList(c.call, []byte("abc"), []byte("de")); got != c.want {
			t.Errorf("%v: %q, not %q", c.what, got, c.want)
		}
	}
}
