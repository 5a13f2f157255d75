package rows

import (
	"slices"

	"tearoff/api"
)

// nameLen is how many bytes a name has.
const nameLen = 16

// Seed: one that may be of a set whose sums have n bytes, and that start marks.
func Seed(n int, start byte) api.Seed {
	return api.Seed{Name: Mixed(nameLen, start), Secret: Mixed(n, start+1)}
}

// Seeds: some that may be of a set whose sums have n bytes, noughts and ones among them, and with spare room.
func Seeds(n int) []api.Seed {
	ones := func(n int) []byte { return slices.Repeat([]byte{255}, n) }
	return []api.Seed{
		Seed(n, 1),
		{Name: make([]byte, nameLen), Secret: make([]byte, n)},
		{Name: ones(nameLen), Secret: ones(n)},
		{Name: Guarded(Mixed(nameLen, 3)), Secret: Guarded(Mixed(n, 4))},
	}
}

// NoSeeds: some that may not be of a set whose sums have n bytes, by their name, their secret, or both.
func NoSeeds(n int) []api.Seed {
	name, secret := Mixed(nameLen, 5), Mixed(n, 6)
	out := []api.Seed{{}, {Name: name}, {Secret: secret}, {Name: secret, Secret: name}, {Name: name[:15], Secret: secret[:n-1]}, {Name: name[:0], Secret: secret}, {Name: name, Secret: secret[:0]}}
	for _, k := range []int{1, 8, 15, 17, 18, 24, 31, 32, 33, 256, 256 + 16, 1<<16 + 16} {
		for _, b := range both(k, nameLen, 5) {
			out = append(out, api.Seed{Name: b, Secret: secret})
		}
	}
	for _, k := range []int{1, 16, 23, 24, 25, 31, 32, 33, 48, 64, n - 1, n + 1, 2 * n, 256 + n, 1<<16 + n} {
		if k == n {
			continue
		}
		for _, b := range both(k, n, 6) {
			out = append(out, api.Seed{Name: name, Secret: b})
		}
	}
	return out
}

// both: k mixed bytes, with no spare room behind them, and with room for n more.
func both(k, n int, start byte) [][]byte {
	return [][]byte{Mixed(k, start), append(make([]byte, 0, k+n), Mixed(k, start)...)}
}

// Turned: b with another byte at a place, in memory of its own.
func Turned(b []byte, at int) []byte {
	out := slices.Clone(b)
	out[at] ^= 1
	return out
}
