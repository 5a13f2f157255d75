package rows

import (
	"bytes"
	"slices"

	"tearoff/api"
)

// rowLen is how many bytes a row has that is summed with masks.
const rowLen = 32

// Masked: secrets of a key with masks that may be, and that start marks.
func Masked(start byte) api.Masked { return MaskedOf(rowLen, start) }

// MaskedOf: likewise, of rows of n bytes.
func MaskedOf(n int, start byte) api.Masked {
	return api.Masked{Secret: Mixed(n, start), Salt: Mixed(n, start+1), Seed: Mixed(n, start+2)}
}

// Maskeds: some that may be, noughts and ones among them, and with spare room.
func Maskeds() []api.Masked { return MaskedsOf(rowLen) }

// MaskedsOf: likewise, of rows of n bytes.
func MaskedsOf(n int) []api.Masked {
	noughts, ones, spare := make([]byte, n), bytes.Repeat([]byte{255}, n), Guarded(Mixed(n, 4))
	return []api.Masked{MaskedOf(n, 1), {Secret: noughts, Salt: noughts, Seed: noughts}, {Secret: ones, Salt: ones, Seed: ones}, {Secret: spare, Salt: spare, Seed: spare}}
}

// WithRow: m with each of its three alone being b, and with all of them.
func WithRow(m api.Masked, b []byte) map[string]api.Masked {
	return map[string]api.Masked{
		"Secret": {Secret: b, Salt: m.Salt, Seed: m.Seed},
		"Salt":   {Secret: m.Secret, Salt: b, Seed: m.Seed},
		"Seed":   {Secret: m.Secret, Salt: m.Salt, Seed: b},
		"all":    {Secret: b, Salt: b, Seed: b},
	}
}

// NoMaskeds: such as may not be, by one of the three alone or by all; some have as many bytes together as must be.
func NoMaskeds() []api.Masked { return NoMaskedsOf(rowLen) }

// NoMaskedsOf: likewise, where the rows must have n bytes.
func NoMaskedsOf(n int) []api.Masked {
	out := []api.Masked{{}}
	for _, b := range Wrong(n) {
		for _, m := range WithRow(MaskedOf(n, 11), b) {
			out = append(out, m)
		}
	}
	for _, list := range [][3]int{{n - 1, n + 1, n}, {n + 1, n - 1, n}, {n, n - 1, n + 1}, {n, n + 1, n - 1}, {n - 1, n, n + 1}, {n + 1, n, n - 1}, {0, n, 2 * n}, {3 * n, 0, 0}} {
		out = append(out, api.Masked{Secret: Mixed(list[0], 12), Salt: Mixed(list[1], 12), Seed: Mixed(list[2], 12)})
	}
	return out
}

// Wrong: rows that haven't n bytes: none, too few, too many, with room for the rest, and such as by the last bytes of their length would have n.
func Wrong(n int) [][]byte {
	out := [][]byte{nil, {}, Guarded(nil), Mixed(256+n, 9), Mixed(1<<16+n, 9)}
	lengths := []int{n - 32, n - 1, n + 1, n + 32, 2 * n}
	for length := range 100 {
		lengths = append(lengths, length)
	}
	for _, length := range lengths {
		if length > 0 && length != n {
			out = append(out, both(length, n, 10)...)
		}
	}
	return out
}

// TurnedBit: b with another bit, in memory of its own.
func TurnedBit(b []byte, bit int) []byte {
	out := slices.Clone(b)
	out[bit/8] ^= 128 >> (bit % 8)
	return out
}

// Sum is how bytes are summed, of which layer 14's sums with masks, and layer 20's records, are put together here by hand.
type Sum func(text []byte) []byte

// Num: the sum of k as 32 bytes, and of all, one behind the other.
func (s Sum) Num(k byte, list ...[]byte) []byte {
	return s(slices.Concat(append([][]byte{append(make([]byte, rowLen-1), k)}, list...)...))
}

// Prf, F, H: what layer 14 must answer.
func (s Sum) Prf(key, text []byte) []byte { return s.Num(3, key, text) }

func (s Sum) F(seed []byte, a api.Adrs, x []byte) []byte {
	return s.Num(0, s.told(seed, a, 0), xor(x, s.told(seed, a, 1)))
}

func (s Sum) H(seed []byte, a api.Adrs, left, right []byte) []byte {
	return s.Num(1, s.told(seed, a, 0), xor(left, s.told(seed, a, 1)), xor(right, s.told(seed, a, 2)))
}

// told: what a seed and an address tell with k.
func (s Sum) told(seed []byte, a api.Adrs, k uint32) []byte { return s.Prf(seed, Laid(a, k)) }

// Wide is how a text is summed into n bytes, of which layer 14's sums without masks are put together here by hand.
type Wide func(text []byte, n int) []byte

// Tweak: what layer 14 must answer.
func (s Wide) Tweak(n int, seed []byte, a api.Adrs, text []byte) []byte {
	at := Laid(a, 0)
	return s(slices.Concat(seed, at[:4], make([]byte, 4), at[4:28], text), n)
}

// Laid: an address as bytes, with k.
func Laid(a api.Adrs, k uint32) []byte {
	var out []byte
	for _, v := range []uint32{a.Layer, uint32(a.Tree >> 32), uint32(a.Tree), a.Kind, a.A, a.B, a.C, k} {
		out = append(out, byte(v>>24), byte(v>>16), byte(v>>8), byte(v))
	}
	return out
}

// xor: a ^ b, of rows of 32 bytes.
func xor(a, b []byte) []byte {
	out := make([]byte, rowLen)
	for i := range out {
		out[i] = a[i] ^ b[i]
	}
	return out
}
