package wplus_test

import (
	"bytes"
	"crypto/sha256"
	"math"
	"testing"

	"tearoff/adrs"
	"tearoff/api"
	"tearoff/digits"
	"tearoff/rows"
	"tearoff/wplus"
)

// The bytes of a row and of a signature, how many chains there are, and how high they go.
const (
	rowLen     = 32
	sigLen     = 2144
	chainCount = 67
	top        = 15
)

// What an address is of: a leaf's chains, or its rows.
const (
	chainKind = 0
	rowKind   = 1
)

// counts are how many each row of a leaf has, counted by hand: that of the height 0 first.
var counts = []int{67, 34, 17, 9, 5, 3, 2, 1}

// place is where a leaf is.
type place struct {
	layer uint32
	tree  uint64
	q     uint32
}

// at: an address within the leaf.
func (p place) at(kind, b, c uint32) api.Adrs {
	return api.Adrs{Layer: p.layer, Tree: p.tree, Kind: kind, A: p.q, B: b, C: c}
}

// leaf, sign and stands are what the layer answers at a place.
func (p place) leaf(m api.Masked) []byte { return wplus.Leaf(m, p.layer, p.tree, p.q) }

func (p place) sign(m api.Masked, sum []byte) []byte {
	return wplus.Sign(m, p.layer, p.tree, p.q, sum)
}

func (p place) stands(seed, sum, sig []byte) []byte {
	return wplus.Stands(seed, p.layer, p.tree, p.q, sum, sig)
}

// means are what the answers are put together with here: sums with masks, and what tells all digits.
type means struct {
	prf    func(key, text []byte) []byte
	f      func(seed []byte, a api.Adrs, x []byte) []byte
	h      func(seed []byte, a api.Adrs, left, right []byte) []byte
	digits func(sum []byte) []int
}

// others are sums with masks of Go's own SHA-256.
var others = rows.Sum(otherSum)

// byLayers are the layers 14 and 7, byOthers are those sums, and digits read off a number's bits.
var (
	byLayers = means{adrs.Prf, adrs.F, adrs.H, func(sum []byte) []int { return digits.All(sum, 4) }}
	byOthers = means{others.Prf, others.F, others.H, rows.Digits}
	allMeans = []means{byLayers, byOthers}
)

// otherSum: the SHA-256 of a text, as others sum it.
func otherSum(text []byte) []byte {
	s := sha256.Sum256(text)
	return s[:]
}

// row: i as 32 bytes.
func row(i int) []byte { return append(make([]byte, 31), byte(i)) }

// secret: the secret of a chain, put together.
func (m means) secret(p place, s api.Masked, i int) []byte {
	return m.prf(m.prf(s.Secret, rows.Laid(p.at(chainKind, 0, 0), 0)), row(i))
}

// up: x, gone up step by step.
func (m means) up(p place, seed []byte, i, from, to int, x []byte) []byte {
	for j := from; j < to; j++ {
		x = m.f(seed, p.at(chainKind, uint32(i), uint32(j)), x)
	}
	return x
}

// risen: the secret of a chain, gone up.
func (m means) risen(p place, s api.Masked, i, to int) []byte {
	return m.up(p, s.Seed, i, 0, to, m.secret(p, s, i))
}

// ends: those of all chains.
func (m means) ends(p place, s api.Masked) [][]byte {
	var out [][]byte
	for i := range chainCount {
		out = append(out, m.risen(p, s, i, top))
	}
	return out
}

// sumOf: the sum of the leaf with these ends: the one that stands alone in its last row.
func (m means) sumOf(p place, seed []byte, ends [][]byte) []byte {
	return m.stood(p, seed, ends, len(counts)-1, 0)
}

// stood: what stands in a leaf's row of the height g at the place i. It is told from what stands below, not row by row.
func (m means) stood(p place, seed []byte, ends [][]byte, g, i int) []byte {
	if g == 0 {
		return ends[i]
	}
	left := m.stood(p, seed, ends, g-1, 2*i)
	if 2*i+1 == counts[g-1] {
		return left
	}
	return m.h(seed, p.at(rowKind, uint32(g-1), uint32(i)), left, m.stood(p, seed, ends, g-1, 2*i+1))
}

// leaf: the sum of a leaf, put together.
func (m means) leaf(p place, s api.Masked) []byte { return m.sumOf(p, s.Seed, m.ends(p, s)) }

// sign: the signature of a sum, put together.
func (m means) sign(p place, s api.Masked, sum []byte) []byte {
	var out []byte
	for i, d := range m.digits(sum) {
		out = append(out, m.risen(p, s, i, d)...)
	}
	return out
}

// stands: the leaf for which a signature of the right length stands, put together.
func (m means) stands(p place, seed, sum, sig []byte) []byte {
	var ends [][]byte
	for i, d := range m.digits(sum) {
		ends = append(ends, m.up(p, seed, i, d, top, part(sig, i)))
	}
	return m.sumOf(p, seed, ends)
}

// part: what a signature has of a chain.
func part(sig []byte, i int) []byte { return sig[rowLen*i : rowLen*(i+1)] }

// few: where some leaves are: with numbers 0, low ones, such as have a byte of their own in each place, and the greatest.
func few() []place {
	return []place{{}, {1, 2, 3}, {0x01020304, 0x05060708090a0b0c, 0x0d0e0f10}, {math.MaxUint32, math.MaxUint64, math.MaxUint32}}
}

// places: those, and such as have one number alone, at its edges.
func places() []place {
	return append(few(), place{layer: 1}, place{tree: 1}, place{q: 1},
		place{layer: math.MaxUint32}, place{tree: math.MaxUint64}, place{q: math.MaxUint32}, place{tree: math.MaxUint32}, place{tree: 1 << 32})
}

// all015: a sum whose digits are each of 0 to 15, four times.
func all015() []byte {
	return bytes.Repeat([]byte{0x01, 0x23, 0x45, 0x67, 0x89, 0xab, 0xcd, 0xef}, 4)
}

// sums: some that are signed: of bytes 0 and 255 alone, of all digits, mixed ones, of one digit alone, and such as differ in one bit.
func sums() [][]byte {
	out := [][]byte{make([]byte, rowLen), bytes.Repeat([]byte{255}, rowLen), all015(), rows.Mixed(rowLen, 7), rows.Guarded(rows.Mixed(rowLen, 8))}
	for d := range byte(16) {
		out = append(out, bytes.Repeat([]byte{d<<4 | d}, rowLen))
	}
	for _, bit := range []int{0, 3, 4, 7, 100, 252, 255} {
		out = append(out, rows.TurnedBit(all015(), bit))
	}
	return out
}

// expect, nothing: how tests tell of bytes.
var expect, nothing = rows.Expect, rows.Nothing

// another tells where bytes aren't those of some leaf, or are those of one that they must differ from.
func another(t *testing.T, got, leaf []byte, what ...any) {
	t.Helper()
	if len(got) != rowLen || len(leaf) != rowLen || bytes.Equal(got, leaf) {
		t.Errorf("%v: %x, not another leaf than %x", what, got, leaf)
	}
}
