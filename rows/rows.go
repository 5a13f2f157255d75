// Package rows holds what the tests of the layers have in common: rows of bytes, those among them that tell whether a call changed, kept or shared them, and the primes. No layer calls it.
package rows

// room is what lies behind a guarded row.
const room = "room"

// Guarded: the bytes of b, in memory of its own, with the bytes of "room" as spare room behind them.
func Guarded(b []byte) []byte {
	out := append(make([]byte, 0, len(b)+len(room)), b...)
	copy(out[len(b):cap(out)], room)
	return out
}

// Full: b with its spare room.
func Full(b []byte) string {
	return string(b[:cap(b)])
}

// Flip makes every byte of b another one.
func Flip(b []byte) {
	for i := range b {
		b[i] ^= 255
	}
}

// Mixed: n bytes that aren't alike, and that start marks.
func Mixed(n int, start byte) []byte {
	out := make([]byte, n)
	x := uint32(start) + 1
	for i := range out {
		x = x*1664525 + 1013904223
		out[i] = byte(x >> 24)
	}
	return out
}

// Primes: the first n of them.
func Primes(n int) []int64 {
	var out []int64
	for p := int64(2); len(out) < n; p++ {
		if !divided(p, out) {
			out = append(out, p)
		}
	}
	return out
}

// divided: whether one of these divides p.
func divided(p int64, by []int64) bool {
	for _, q := range by {
		if p%q == 0 {
			return true
		}
	}
	return false
}
