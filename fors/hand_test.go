package fors_test

import (
	"bytes"
	"crypto/sha3"
	"fmt"
	"math"
	"slices"

	"tearoff/adrs"
	"tearoff/api"
	"tearoff/fors"
	"tearoff/rows"
)

// means are what the answers are put together with here: sums without masks.
type means func(n int, seed []byte, a api.Adrs, text []byte) []byte

// byLayer is the layer 14, byOthers is Go's own SHAKE256.
var (
	byLayer  = means(adrs.Tweak)
	byOthers = means(rows.Wide(sha3.SumSHAKE256).Tweak)
	allMeans = []means{byLayer, byOthers}
)

// place is a tree, and a number in it.
type place struct {
	tree uint64
	q    uint32
}

// places: unlike ones, each of whose bytes tells in one of them.
func places() []place {
	out := []place{{0, 0}, {1, 0}, {0, 1}, {5, 6}, {6, 5}, {0x102030405060708, 0x90a0b0c}, {math.MaxUint64, math.MaxUint32}, {math.MaxUint32, math.MaxUint32}}
	for i := range 8 {
		out = append(out, place{tree: 1 << (8 * i)}, place{tree: 128 << (8 * i)})
	}
	for _, q := range rows.Places() {
		out = append(out, place{1, q})
	}
	return out
}

// whole, tell, stands: the calls at a place.
func (p place) whole(f api.Few, m api.Masked) []byte { return fors.Whole(f, m, p.tree, p.q) }

func (p place) tell(f api.Few, m api.Masked, b []byte) []byte {
	return fors.Tell(f, m, p.tree, p.q, b)
}

func (p place) stands(f api.Few, seed, b, told []byte) []byte {
	return fors.Stands(f, seed, p.tree, p.q, b, told)
}

// at: an address of a place.
func (p place) at(kind uint32, height, i int) api.Adrs {
	return api.Adrs{Layer: 0, Tree: p.tree, Kind: kind, A: p.q, B: uint32(height), C: uint32(i)}
}

// secret: the i-th one.
func (w means) secret(f api.Few, m api.Masked, p place, i int) []byte {
	return w(f.N, m.Seed, p.at(6, 0, i), m.Secret)
}

// above: a sum of the one, or the two, that are below it.
func (w means) above(f api.Few, seed []byte, p place, height, i int, below ...[]byte) []byte {
	return w(f.N, seed, p.at(3, height, i), slices.Concat(below...))
}

// wholeOf: the whole of the highest sums.
func (w means) wholeOf(f api.Few, seed []byte, p place, tops [][]byte) []byte {
	return w(f.N, seed, p.at(4, 0, 0), slices.Concat(tops...))
}

// grown is all secrets of a place, and all sums, height by height.
type grown struct {
	f       api.Few
	secrets [][]byte
	sums    [][][]byte
	whole   []byte
}

// grow: such, put together row by row, of a set of any height.
func (w means) grow(f api.Few, m api.Masked, p place) grown {
	out := grown{f: f}
	var list [][]byte
	for i := range f.K << f.A {
		x := w.secret(f, m, p, i)
		out.secrets = append(out.secrets, x)
		list = append(list, w.above(f, m.Seed, p, 0, i, x))
	}
	out.sums = append(out.sums, list)
	for height := 1; height <= f.A; height++ {
		var next [][]byte
		for i := 0; i < len(list); i += 2 {
			next = append(next, w.above(f, m.Seed, p, height, i/2, list[i], list[i+1]))
		}
		list = next
		out.sums = append(out.sums, list)
	}
	out.whole = w.wholeOf(f, m.Seed, p, list)
	return out
}

// tell: what is told of bytes.
func (g grown) tell(b []byte) []byte {
	var out []byte
	for k, d := range split(g.f, b) {
		i := k*pow(g.f.A) + int(d)
		out = append(out, g.secrets[i]...)
		for height := range g.f.A {
			if i%2 == 0 {
				out = append(out, g.sums[height][i+1]...)
			} else {
				out = append(out, g.sums[height][i-1]...)
			}
			i /= 2
		}
	}
	return out
}

// stands: the whole for which any bytes stand as what is told.
func (w means) stands(f api.Few, seed []byte, p place, b, told []byte) []byte {
	var tops [][]byte
	for k, d := range split(f, b) {
		part := told[k*partLen(f):][:partLen(f)]
		sum := w.above(f, seed, p, 0, k*pow(f.A)+int(d), row(f, part, 0))
		// Each letter of the digit, from the last one on, tells on which side it is.
		sides := fmt.Sprintf("%0*b", f.A, d)
		for height := 1; height <= f.A; height++ {
			two := [][]byte{sum, row(f, part, height)}
			if sides[f.A-height] == '1' {
				slices.Reverse(two)
			}
			i := k*pow(f.A-height) + int(d)/pow(height)
			sum = w.above(f, seed, p, height, i, two...)
		}
		tops = append(tops, sum)
	}
	return w.wholeOf(f, seed, p, tops)
}

// pow: 2 with this exponent.
func pow(n int) int { return int(math.Pow(2, float64(n))) }

// row: a row of as many bytes as a sum of the set has.
func row(f api.Few, b []byte, i int) []byte { return b[f.N*i : f.N*(i+1)] }

// partLen, toldLen: how many bytes are told of one digit, and of all.
func partLen(f api.Few) int { return f.N + f.A*f.N }
func toldLen(f api.Few) int { return f.K*f.A*f.N + f.K*f.N }

// split: the digits of bytes, read off the letters of their bits.
func split(f api.Few, b []byte) []uint32 {
	text := rows.Bits(b)
	var out []uint32
	for range f.K {
		out, text = append(out, uint32(rows.FromBits(text[:f.A]))), text[f.A:]
	}
	return out
}

// needed: how many bytes have the digits of a set.
func needed(f api.Few) int {
	n := 0
	for 8*n < f.K*f.A {
		n++
	}
	return n
}

// enough: bytes that have just the digits of a set: mixed ones, noughts and ones.
func enough(f api.Few, start byte) [][]byte {
	n := needed(f)
	return [][]byte{rows.Mixed(n, start), make([]byte, n), bytes.Repeat([]byte{255}, n)}
}

// tooFew: bytes that have fewer bits than the digits of a set, with spare room behind and without.
func tooFew(f api.Few) [][]byte {
	out := [][]byte{nil, {}}
	for n := range needed(f) {
		out = append(out, rows.Mixed(n, 7), rows.Mixed(needed(f)+9, 7)[:n])
	}
	return out
}

// base is a set that may be and can be made, and the greatest that can be.
var (
	base     = api.Few{N: 16, Layers: 2, Height: 2, K: 2, A: 2}
	greatest = api.Few{N: 32, Layers: 11, Height: 6, K: 40, A: 6}
)

// few: sets that are soon made.
func few() []api.Few {
	var out []api.Few
	for _, n := range []int{16, 24, 32} {
		for k := 1; k <= 3; k++ {
			for a := 1; a <= 3; a++ {
				out = append(out, api.Few{N: n, Layers: 1 + k, Height: a, K: k, A: a})
			}
		}
	}
	return out
}

// expect, nothing, unlike: how tests tell of bytes.
var expect, nothing, unlike = rows.Expect, rows.Nothing, rows.Unlike
