package adrs_test

import (
	"crypto/sha3"
	"math"
	"slices"
	"testing"

	"tearoff/adrs"
	"tearoff/api"
	"tearoff/rows"
	"tearoff/shake"
)

// sizes are the bytes that a sum without masks may have.
var sizes = []int{16, 24, 32}

// noSizes are numbers that no such sum has: near to those, far, and such as are one of those by their last bytes.
var noSizes = []int{0, 1, 8, 15, 17, 20, 23, 25, 28, 31, 33, 40, 48, 64, 128, 136, 255, 256, 256 + 16, 256 + 24, 256 + 32, api.MaxText, api.MaxText + 1, 1<<16 + 16, 1<<32 + 16, 1<<32 + 32, math.MaxInt32, math.MaxInt,
	-1, -8, -16, -24, -32, -256 + 16, -1<<16 + 32, math.MinInt32, math.MinInt32 + 16, math.MinInt, math.MinInt + 16, math.MinInt + 32}

// expectTweak tells where Tweak isn't SHAKE256 of its seed, its address and its text, by layer 5 and by others.
func expectTweak(t *testing.T, n int, seed []byte, a api.Adrs, text []byte) {
	t.Helper()
	all := slices.Concat(seed, plainByHand(a), text)
	got := adrs.Tweak(n, seed, a, text)
	expect(t, got, shake.Sum(all, n), "P14.2: Tweak", n, a, len(text))
	expect(t, got, sha3.SumSHAKE256(all, n), "P14.2: Tweak, as others sum it", n, a, len(text))
}

// P14.2: Tweak of each size, of many seeds, addresses and texts.
func TestTweak(t *testing.T) {
	for _, n := range sizes {
		for _, seed := range [][]byte{rows.Mixed(n, 31), make([]byte, n), slices.Repeat([]byte{255}, n), rows.Guarded(rows.Mixed(n, 32))} {
			for _, a := range some() {
				for _, text := range [][]byte{nil, {}, []byte("a"), []byte("abc"), seed, rows.Mixed(67*n, 33), rows.Guarded([]byte("text"))} {
					expectTweak(t, n, seed, a, text)
				}
			}
		}
	}
}

// P14.2: Tweak, of texts of every length up to several blocks, and of long ones: a text has no bound.
func TestTweakLengths(t *testing.T) {
	for _, n := range sizes {
		seed, a := rows.Mixed(n, 34), mixed(35).Adrs
		for length := range 500 {
			expectTweak(t, n, seed, a, rows.Mixed(length, 36))
		}
		for _, length := range []int{api.MaxText - 1, api.MaxText, api.MaxText + 1, 3*api.MaxText + 7} {
			expectTweak(t, n, seed, a, rows.Mixed(length, 37))
		}
	}
}

// P14.2: each byte of a seed and of a text tells in Tweak.
func TestTweakBytes(t *testing.T) {
	for _, n := range sizes {
		seed, a, text := rows.Mixed(n, 38), mixed(39).Adrs, rows.Mixed(300, 40)
		sums := map[string]bool{string(adrs.Tweak(n, seed, a, text)): true}
		for at := range seed {
			expectTweak(t, n, rows.Turned(seed, at), a, text)
			sums[string(adrs.Tweak(n, rows.Turned(seed, at), a, text))] = true
		}
		for at := range text {
			expectTweak(t, n, seed, a, rows.Turned(text, at))
			sums[string(adrs.Tweak(n, seed, a, rows.Turned(text, at)))] = true
		}
		if len(sums) != 1+len(seed)+len(text) {
			t.Errorf("P14.2: Tweak, of %v bytes: %v sums, not %v", n, len(sums), 1+len(seed)+len(text))
		}
	}
}

// P14.2: nothing of Tweak, if n isn't 16, 24 or 32, even of a seed of n bytes.
func TestTweakNoSize(t *testing.T) {
	list := slices.Clone(noSizes)
	for n := range 300 {
		list = append(list, n, -n)
	}
	for _, n := range list {
		if slices.Contains(sizes, n) {
			continue
		}
		seeds := [][]byte{nil, {}, rows.Mixed(16, 41), rows.Mixed(24, 41), rows.Mixed(32, 41)}
		if n >= 0 && n <= 1<<17 {
			seeds = append(seeds, rows.Mixed(n, 41))
		}
		for _, seed := range seeds {
			for _, text := range [][]byte{nil, []byte("text")} {
				nothing(t, adrs.Tweak(n, seed, api.Adrs{}, text), "P14.2: Tweak, n, bytes of the seed", n, len(seed))
				nothing(t, adrs.Tweak(n, seed, mixed(42).Adrs, text), "P14.2: Tweak, n, bytes of the seed", n, len(seed))
			}
		}
	}
}

// P14.2: nothing of Tweak, if the seed hasn't n bytes: too few, too many, and as many as another size has.
func TestTweakSeeds(t *testing.T) {
	for _, n := range sizes {
		for _, seed := range rows.Wrong(n) {
			for _, text := range [][]byte{nil, []byte("text"), rows.Mixed(n, 43)} {
				nothing(t, adrs.Tweak(n, seed, api.Adrs{}, text), "P14.2: Tweak, n, bytes of the seed", n, len(seed))
				nothing(t, adrs.Tweak(n, seed, mixed(44).Adrs, text), "P14.2: Tweak, n, bytes of the seed", n, len(seed))
			}
		}
		expectTweak(t, n, rows.Mixed(n, 45), mixed(44).Adrs, []byte("text"))
	}
}
