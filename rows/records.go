package rows

import (
	"bytes"
	"slices"

	"tearoff/api"
)

// Number: v as n bytes, the greatest first.
func Number(v uint64, n int) []byte {
	out := make([]byte, n)
	for i := range out {
		out[i] = byte(v >> (8 * (n - 1 - i)))
	}
	return out
}

// Head: what a record of layer 20 begins with: a number, and how many bytes there are.
func Head(number uint64, size uint32) []byte {
	return slices.Concat(Number(number, 8), Number(uint64(size), 4))
}

// Summed: bytes, and the first 16 bytes of their sum.
func (s Sum) Summed(parts ...[]byte) []byte {
	b := slices.Concat(parts...)
	return append(b, s(b)[:16]...)
}

// Record: a record of layer 20 by hand, of a number and bytes, up to the end of an area of n sectors.
func (s Sum) Record(n int, number uint64, b []byte) []byte {
	return Filled(n, s.Summed(Head(number, uint32(len(b))), b))
}

// Filled: bytes, and bytes 0 behind them up to the end of an area of n sectors.
func Filled(n int, b []byte) []byte {
	out := Blank(n)
	copy(out, b)
	return out
}

// Blank: an area of n sectors that is all 0; Junk: one that is no record.
func Blank(n int) []byte { return make([]byte, n*api.SectorLen) }
func Junk(n int) []byte  { return bytes.Repeat([]byte{1}, n*api.SectorLen) }

// Counter: by hand, a counter of layer 21 as bytes, whether it may be or not.
func Counter(x api.Counted, head []byte) []byte {
	mark := []byte{0}
	if x.Retired {
		mark = []byte{1}
	}
	return slices.Concat(Number(x.Total, 8), Number(x.Batch, 8), Number(x.Reserved, 8), mark, head)
}
