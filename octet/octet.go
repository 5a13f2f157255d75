// Package octet is layer 1: numbers as bytes, and rows of bytes. See shared/doc/01-octet.md.
package octet

import (
	"bytes"

	"tearoff/api"
	"tearoff/leave"
)

// wordLen is how many bytes the greatest number has.
const wordLen = 8

// Put: v as n bytes, the greatest first; what doesn't fit is cut. Nothing, if n isn't 0 to 8.
func Put(v uint64, n int) []byte {
	if n < 0 || n > wordLen {
		return nil
	}
	out := make([]byte, n)
	for i := n - 1; i >= 0; i-- {
		out[i] = byte(v)
		v >>= 8
	}
	return out
}

// Get: the number that b is; false, if b has more than 8 bytes.
func Get(b []byte) (uint64, bool) {
	if len(b) > wordLen {
		return 0, false
	}
	var v uint64
	for _, c := range b {
		v = v<<8 | uint64(c)
	}
	return v, true
}

// Cat: all parts, one behind the other, in memory of its own.
func Cat(parts ...[]byte) []byte {
	n := 0
	for _, p := range parts {
		n += len(p)
	}
	out := make([]byte, 0, n)
	for _, p := range parts {
		out = append(out, p...)
	}
	return out
}

// Fill: n times the byte c. Nothing, if n is below 0, or above MaxText.
func Fill(c byte, n int) []byte {
	if n < 0 || n > api.MaxText {
		return nil
	}
	out := make([]byte, n)
	for i := range out {
		out[i] = c
	}
	return out
}

// Same: whether a and b are the same bytes.
func Same(a, b []byte) bool {
	return bytes.Equal(a, b)
}

// Xor: byte by byte, as many as the shorter one has.
func Xor(a, b []byte) []byte {
	out := make([]byte, min(len(a), len(b)))
	for i := range out {
		out[i] = a[i] ^ b[i]
	}
	return out
}

// Cut: b in parts of these sizes, each in memory of its own. Arg, Short, Length.
func Cut(b []byte, sizes ...int) (out [][]byte, e api.Code) {
	defer func() { e = leave.Told(recover()) }()
	var parts [][]byte
	for _, n := range sizes {
		parts = append(parts, first(b, n))
		b = b[n:]
	}
	leave.Need(len(b) == 0, api.Length)
	return parts, api.OK
}

// first: the first n bytes of b, in memory of its own. It leaves by a panic, if there are none such.
func first(b []byte, n int) []byte {
	leave.Need(n >= 0, api.Arg)
	leave.Need(n <= len(b), api.Short)
	return Cat(b[:n])
}
