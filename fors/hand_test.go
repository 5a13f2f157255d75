package fors_test

import (
	"bytes"
	"crypto/sha3"
	"fmt"
	"math"
	"slices"
	"strconv"
	"strings"
	"testing"

	"tearoff/adrs"
	"tearoff/api"
	"tearoff/fors"
	"tearoff/rows"
)

// means are what the answers are put together with here: sums without masks.
type means func(n int, seed []byte, a api.Adrs, text []byte) []byte

// byLayer is the layer 14, byOthers is Go's own SHAKE256.
var (
	byLayer  = means(adrs.Tweak)
	byOthers = means(rows.Wide(sha3.SumSHAKE256).Tweak)
	allMeans = []means{byLayer, byOthers}
)

// place is a tree, and a number in it.
type place struct {
	tree uint64
	q    uint32
}

// places: unlike ones, each of whose bytes tells in one of them.
func places() []place {
	out := []place{{0, 0}, {1, 0}, {0, 1}, {5, 6}, {6, 5}, {0x102030405060708, 0x90a0b0c}, {math.MaxUint64, math.MaxUint32}, {math.MaxUint32, math.MaxUint32}}
	for i := range 8 {
		out = append(out, place{tree: 1 << (8 * i)}, place{tree: 128 << (8 * i)})
	}
	for _, q := range rows.Places() {
		out = append(out, place{1, q})
	}
	return out
}

// whole, tell, stands: the calls at a place.
func (p place) whole(f api.Few, m api.Masked) []byte { return fors.Whole(f, m, p.tree, p.q) }

func (p place) tell(f api.Few, m api.Masked, b []byte) []byte {
	return fors.Tell(f, m, p.tree, p.q, b)
}

func (p place) stands(f api.Few, seed, b, told []byte) []byte {
	return fors.Stands(f, seed, p.tree, p.q, b, told)
}

// at: an address of a place.
func (p place) at(kind uint32, height, i int) api.Adrs {
	return api.Adrs{Layer: 0, Tree: p.tree, Kind: kind, A: p.q, B: uint32(height), C: uint32(i)}
}

// secret: the i-th one.
func (w means) secret(f api.Few, m api.Masked, p place, i int) []byte {
	return w(f.N, m.Seed, p.at(6, 0, i), m.Secret)
}

// above: a sum of the one, or the two, that are below it.
func (w means) above(f api.Few, seed []byte, p place, height, i int, below ...[]byte) []byte {
	return w(f.N, seed, p.at(3, height, i), slices.Concat(below...))
}

// wholeOf: the whole of the highest sums.
func (w means) wholeOf(f api.Few, seed []byte, p place, tops [][]byte) []byte {
	return w(f.N, seed, p.at(4, 0, 0), slices.Concat(tops...))
}

// grown is all secrets of a place, and all sums, height by height.
type grown struct {
	f       api.Few
	secrets [][]byte
	sums    [][][]byte
	whole   []byte
}

// grow: such, put together row by row, of a set of any height.
func (w means) grow(f api.Few, m api.Masked, p place) grown {
	out := grown{f: f}
	var list [][]byte
	for i := range f.K << f.A {
		x := w.secret(f, m, p, i)
		out.secrets = append(out.secrets, x)
		list = append(list, w.above(f, m.Seed, p, 0, i, x))
	}
	out.sums = append(out.sums, list)
	for height := 1; height <= f.A; height++ {
		var next [][]byte
		for i := 0; i < len(list); i += 2 {
			next = append(next, w.above(f, m.Seed, p, height, i/2, list[i], list[i+1]))
		}
		list = next
		out.sums = append(out.sums, list)
	}
	out.whole = w.wholeOf(f, m.Seed, p, list)
	return out
}

// tell: what is told of bytes.
func (g grown) tell(b []byte) []byte {
	var out []byte
	for k, d := range split(g.f, b) {
		i := k*pow(g.f.A) + int(d)
		out = append(out, g.secrets[i]...)
		for height := range g.f.A {
			if i%2 == 0 {
				out = append(out, g.sums[height][i+1]...)
			} else {
				out = append(out, g.sums[height][i-1]...)
			}
			i /= 2
		}
	}
	return out
}

// stands: the whole for which any bytes stand as what is told.
func (w means) stands(f api.Few, seed []byte, p place, b, told []byte) []byte {
	var tops [][]byte
	for k, d := range split(f, b) {
		part := told[k*partLen(f):][:partLen(f)]
		sum := w.above(f, seed, p, 0, k*pow(f.A)+int(d), row(f, part, 0))
		// Each letter of the digit, from the last one on, tells on which side it is.
		sides := fmt.Sprintf("%0*b", f.A, d)
		for height := 1; height <= f.A; height++ {
			two := [][]byte{sum, row(f, part, height)}
			if sides[f.A-height] == '1' {
				slices.Reverse(two)
			}
			i := k*pow(f.A-height) + int(d)/pow(height)
			sum = w.above(f, seed, p, height, i, two...)
		}
		tops = append(tops, sum)
	}
	return w.wholeOf(f, seed, p, tops)
}

// pow: 2 with this exponent.
func pow(n int) int { return int(math.Pow(2, float64(n))) }

// row: a row of as many bytes as a sum of the set has.
func row(f api.Few, b []byte, i int) []byte { return b[f.N*i : f.N*(i+1)] }

// partLen, toldLen: how many bytes are told of one digit, and of all.
func partLen(f api.Few) int { return f.N + f.A*f.N }
func toldLen(f api.Few) int { return f.K*f.A*f.N + f.K*f.N }

// letters: the bits of bytes as letters, from the front on.
func letters(b []byte) string {
	var out strings.Builder
	for _, c := range b {
		fmt.Fprintf(&out, "%08b", c)
	}
	return out.String()
}

// split: the digits of bytes, read off the letters of their bits.
func split(f api.Few, b []byte) []uint32 {
	text := letters(b)
	var out []uint32
	for range f.K {
		v, err := strconv.ParseUint(text[:f.A], 2, 32)
		if err != nil {
			panic(err)
		}
		out, text = append(out, uint32(v)), text[f.A:]
	}
	return out
}

// needed: how many bytes have the digits of a set.
func needed(f api.Few) int {
	n := 0
	for 8*n < f.K*f.A {
		n++
	}
	return n
}

// enough: bytes that have just the digits of a set: mixed ones, noughts and ones.
func enough(f api.Few, start byte) [][]byte {
	n := needed(f)
	return [][]byte{rows.Mixed(n, start), make([]byte, n), bytes.Repeat([]byte{255}, n)}
}

// tooFew: bytes that have fewer bits than the digits of a set, with spare room behind and without.
func tooFew(f api.Few) [][]byte {
	out := [][]byte{nil, {}}
	for n := range needed(f) {
		out = append(out, rows.Mixed(n, 7), rows.Mixed(needed(f)+9, 7)[:n])
	}
	return out
}

// most: of each height from 1 on how many layers there may be.
var most = []int{22, 22, 22, 16, 13, 11, 10, 8, 8}

// base is a set that may be and can be made, and the greatest that can be.
var (
	base     = api.Few{N: 16, Layers: 2, Height: 2, K: 2, A: 2}
	greatest = api.Few{N: 32, Layers: 11, Height: 6, K: 40, A: 6}
)

// few: sets that are soon made.
func few() []api.Few {
	var out []api.Few
	for _, n := range []int{16, 24, 32} {
		for k := 1; k <= 3; k++ {
			for a := 1; a <= 3; a++ {
				out = append(out, api.Few{N: n, Layers: 1 + k, Height: a, K: k, A: a})
			}
		}
	}
	return out
}

// fields: the numbers of a set.
func fields(f *api.Few) []*int { return []*int{&f.N, &f.Layers, &f.Height, &f.K, &f.A} }

// far: numbers that are none of any set: far ones, and such as are alike to some by their last bits.
func far() []int {
	return []int{-1, -16, -255, -256, math.MinInt32, math.MinInt, math.MinInt + 1, math.MinInt + 16, math.MinInt / 2, 64, 65, 100, 256, 256 + 16, 1<<16 + 1, 1<<16 + 16, 1 << 31, 1 << 32, 1<<32 + 1, 1<<32 + 16, 1 << 61, 1<<62 + 1, math.MaxInt/2 + 1, math.MaxInt - 1, math.MaxInt}
}

// noSets: sets that may not be, by one of their numbers alone, by two that go too high together, and by all.
func noSets() []api.Few {
	out := []api.Few{{}, {N: -16, Layers: -1, Height: -1, K: -1, A: -1}, {N: 16, Layers: 23, Height: 10, K: 41, A: 15}}
	for _, f := range []api.Few{base, {N: 24, Layers: 1, Height: 1, K: 1, A: 1}, {N: 32, Layers: 1, Height: 1, K: 40, A: 14}} {
		bad := [][]int{{0, 1, 8, 15, 17, 20, 23, 25, 31, 33, 40, 48}, {0, 23, 24}, {0, 10, 11}, {0, 41, 42}, {0, 15, 16, 32}}
		for i, list := range bad {
			for _, v := range append(list, far()...) {
				x := f
				*fields(&x)[i] = v
				out = append(out, x)
			}
		}
		for _, v := range far() {
			out = append(out, api.Few{N: v, Layers: v, Height: v, K: v, A: v})
		}
		for i, d := range most {
			for layers := d + 1; layers <= 23; layers++ {
				out = append(out, api.Few{N: f.N, Layers: layers, Height: i + 1, K: f.K, A: f.A})
			}
		}
	}
	return out
}

// tooHigh: sets that may be, but can't be made.
func tooHigh() []api.Few {
	var out []api.Few
	for _, n := range []int{16, 24, 32} {
		for high := 7; high <= 14; high++ {
			out = append(out, api.Few{N: n, Layers: 1, Height: 1, K: 1, A: high}, api.Few{N: n, Layers: 11, Height: 6, K: 40, A: high})
			if high <= 9 {
				out = append(out, api.Few{N: n, Layers: 1, Height: high, K: 1, A: 1}, api.Few{N: n, Layers: 8, Height: high, K: 40, A: 6}, api.Few{N: n, Layers: 1, Height: high, K: 2, A: high})
			}
		}
	}
	return out
}

// expect tells where bytes aren't those that they must be.
func expect(t *testing.T, got, want []byte, what ...any) {
	t.Helper()
	if len(want) == 0 || !bytes.Equal(got, want) {
		t.Errorf("%v: %v bytes, %.40x.., not %v, %.40x..", what, len(got), got, len(want), want)
	}
}

// nothing tells where bytes are there that may not be.
func nothing(t *testing.T, got []byte, what ...any) {
	t.Helper()
	if len(got) != 0 {
		t.Errorf("%v: %v bytes, %.40x.., not nothing", what, len(got), got)
	}
}

// unlike tells where bytes are the same that may not be, or are none.
func unlike(t *testing.T, got, other []byte, what ...any) {
	t.Helper()
	if len(got) == 0 || bytes.Equal(got, other) {
		t.Errorf("%v: %v bytes, %.40x.., alike or none", what, len(got), got)
	}
}
