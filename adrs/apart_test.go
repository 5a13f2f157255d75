package adrs_test

import (
	"testing"

	"tearoff/adrs"
	"tearoff/api"
	"tearoff/rows"
)

// P14.1: what was answered may be written over: no other answer hangs on it.
func TestAddressKeepsApart(t *testing.T) {
	for _, p := range append(grounds(), placed{Adrs: api.Adrs{Layer: 1}}) {
		for what, call := range map[string]func(in [][]byte) []byte{
			"Bytes": func([][]byte) []byte { return adrs.Bytes(p.Adrs, p.k) },
			"Plain": func([][]byte) []byte { return adrs.Plain(p.Adrs) },
		} {
			if how := rows.Apart(call); how != "" {
				t.Errorf("P14.1: %v of %v: %v", what, p, how)
			}
		}
	}
}

// P14.1, P14.2: what was handed in stays as it was, its spare room too, and isn't shared nor kept; nor do answers share memory.
func TestKeepsApart(t *testing.T) {
	for _, a := range some() {
		for _, n := range []int{0, 1, 16, 24, 31, 32, 33, 300} {
			for what, call := range map[string]func(in [][]byte) []byte{
				"Num":               func(in [][]byte) []byte { return adrs.Num(7, in[0], in[1]) },
				"Prf":               func(in [][]byte) []byte { return adrs.Prf(in[0], in[1]) },
				"F":                 func(in [][]byte) []byte { return adrs.F(in[0], a, in[1]) },
				"H":                 func(in [][]byte) []byte { return adrs.H(in[0], a, in[1], in[2]) },
				"H, of one":         func(in [][]byte) []byte { return adrs.H(in[0], a, in[0], in[0]) },
				"Tweak":             func(in [][]byte) []byte { return adrs.Tweak(n, in[0], a, in[1]) },
				"Tweak, of no size": func(in [][]byte) []byte { return adrs.Tweak(n+1, in[0], a, in[1]) },
			} {
				if how := rows.Apart(call, rows.Mixed(n, 51), rows.Mixed(n, 52), rows.Mixed(n, 53)); how != "" {
					t.Errorf("P14: %v, %v bytes, of %v: %v", what, n, a, how)
				}
			}
		}
	}
}

// P14.2: rows that share memory are taken as they stand, each up to its own end.
func TestShared(t *testing.T) {
	b, a := rows.Mixed(96, 54), mixed(55).Adrs
	for at := range 48 {
		seed, x, y := b[at/2:at/2+32], b[at:at+32], b[at+16:at+48]
		expectF(t, seed, a, x)
		expectH(t, seed, a, x, y)
		expectH(t, seed, a, x, x)
		expectH(t, seed, a, seed, seed)
		for _, n := range sizes {
			expectTweak(t, n, seed[:n], a, x)
			expectTweak(t, n, seed[:n], a, seed)
		}
	}
	expect(t, b, rows.Mixed(96, 54), "P14.2: what is shared")
}

// P14.2: a refused call leaves nothing behind, and a call tells the same each time.
func TestAfterRefused(t *testing.T) {
	seed, x, y := rows.Mixed(rowLen, 56), rows.Mixed(rowLen, 57), rows.Mixed(rowLen, 58)
	for _, a := range some() {
		for range 2 {
			nothing(t, adrs.F(seed[1:], a, x), "P14.2: F, a short seed")
			expectF(t, seed, a, x)
			nothing(t, adrs.H(seed, a, x, y[1:]), "P14.2: H, a short right one")
			expectH(t, seed, a, x, y)
			nothing(t, adrs.Tweak(32, seed[:16], a, x), "P14.2: Tweak, a short seed")
			expectTweak(t, 16, seed[:16], a, x)
			nothing(t, adrs.Tweak(20, seed[:20], a, x), "P14.2: Tweak, no size")
			expectTweak(t, 24, seed[:24], a, x)
		}
	}
}
