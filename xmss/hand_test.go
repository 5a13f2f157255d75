package xmss_test

import (
	"bytes"
	"crypto/sha256"
	"encoding/binary"
	"fmt"
	"slices"
	"testing"

	"tearoff/adrs"
	"tearoff/api"
	"tearoff/rows"
	"tearoff/wplus"
	"tearoff/xmss"
)

// The bytes of a row, of an index and a salt at the beginning of a signature, and of a leaf's signature.
const (
	rowLen     = 32
	headLen    = 40
	leafSigLen = 2144
)

// means are what the answers are put together with here: sums, with masks and without. Leaves, and their signatures, are layer 15's.
type means struct {
	num func(k byte, key, text []byte) []byte
	prf func(key, text []byte) []byte
	h   func(seed []byte, a api.Adrs, left, right []byte) []byte
}

// others are sums with masks of Go's own SHA-256.
var others = rows.Sum(otherSum)

// byLayers is the layer 14, byOthers are those sums.
var (
	byLayers = means{adrs.Num, adrs.Prf, adrs.H}
	byOthers = means{otherNum, others.Prf, others.H}
	allMeans = []means{byLayers, byOthers}
)

// otherSum: the SHA-256 of a text, as others sum it.
func otherSum(text []byte) []byte {
	s := sha256.Sum256(text)
	return s[:]
}

func otherNum(k byte, key, text []byte) []byte { return others.Num(k, key, text) }

// place is where an index signs in a layer.
type place struct {
	layer uint32
	tree  uint64
	q     uint32
}

// sign: layer 15's signature at a place.
func (p place) sign(m api.Masked, sum []byte) []byte {
	return wplus.Sign(m, p.layer, p.tree, p.q, sum)
}

// split: the places of an index, read off the letters of its bits, the lowest layer first.
func split(x api.Shape, n uint64) []place {
	text := fmt.Sprintf("%0*b", x.Layers*x.Height, n)
	var out []place
	for layer := range x.Layers {
		at := len(text) - x.Height
		out = append(out, place{uint32(layer), rows.FromBits(text[:at]), uint32(rows.FromBits(text[at:]))})
		text = text[:at]
	}
	return out
}

// leafAt is what a leaf hangs on.
type leafAt struct {
	secret, seed string
	place        place
}

// leaves are those that were asked for here: a leaf takes long.
var leaves = map[leafAt][]byte{}

// leafOf: layer 15's leaf of a place.
func leafOf(m api.Masked, p place) []byte {
	at := leafAt{string(m.Secret), string(m.Seed), p}
	if leaves[at] == nil {
		leaves[at] = wplus.Leaf(m, p.layer, p.tree, p.q)
	}
	return bytes.Clone(leaves[at])
}

// sumAt: the i-th sum of a height of a tree, told from the two below it.
func (w means) sumAt(m api.Masked, layer uint32, tree uint64, height, i int) []byte {
	if height == 0 {
		return leafOf(m, place{layer, tree, uint32(i)})
	}
	below := func(i int) []byte { return w.sumAt(m, layer, tree, height-1, i) }
	a := api.Adrs{Layer: layer, Tree: tree, Kind: 2, B: uint32(height - 1), C: uint32(i)}
	return w.h(m.Seed, a, below(2*i), below(2*i+1))
}

// root: that of a tree, put together.
func (w means) root(x api.Shape, m api.Masked, layer uint32, tree uint64) []byte {
	return w.sumAt(m, layer, tree, x.Height, 0)
}

// way: that of a place, put together.
func (w means) way(x api.Shape, m api.Masked, p place) []byte {
	var out []byte
	for g := range x.Height {
		i := int(p.q) / (1 << g)
		other := i + 1
		if i%2 == 1 {
			other = i - 1
		}
		out = append(out, w.sumAt(m, p.layer, p.tree, g, other)...)
	}
	return out
}

// led: where a leaf, and any way, lead.
func (w means) led(seed []byte, p place, leaf, way []byte) []byte {
	sum := leaf
	for g := range len(way) / rowLen {
		two := [][]byte{sum, row(way, g)}
		if p.q&(1<<g) != 0 {
			slices.Reverse(two)
		}
		sum = w.h(seed, api.Adrs{Layer: p.layer, Tree: p.tree, Kind: 2, B: uint32(g), C: p.q >> (g + 1)}, two[0], two[1])
	}
	return sum
}

// row: a row of 32 bytes of some.
func row(b []byte, i int) []byte { return b[rowLen*i : rowLen*(i+1)] }

// number: an index as 8 bytes, index: as 32.
func number(n uint64) []byte { return binary.BigEndian.AppendUint64(nil, n) }
func index(n uint64) []byte  { return append(make([]byte, 24), number(n)...) }

// public: the public key, put together.
func (w means) public(x api.Shape, m api.Masked) []byte {
	return append(w.root(x, m, uint32(x.Layers-1), 0), m.Seed...)
}

// salt: that of an index.
func (w means) salt(m api.Masked, n uint64) []byte { return w.prf(m.Salt, index(n)) }

// textSum: the sum of a text.
func (w means) textSum(salt, root []byte, n uint64, text []byte) []byte {
	return w.num(2, slices.Concat(salt, root, index(n)), text)
}

// sign: the signature at an index, put together.
func (w means) sign(x api.Shape, m api.Masked, n uint64, text []byte) []byte {
	salt := w.salt(m, n)
	signs := w.textSum(salt, w.public(x, m)[:rowLen], n, text)
	out := append(number(n), salt...)
	for _, p := range split(x, n) {
		out = slices.Concat(out, p.sign(m, signs), w.way(x, m, p))
		signs = w.root(x, m, p.layer, p.tree)
	}
	return out
}

// grown is a key whose trees have but the leaves of one index each, and any sums beside them: so it can be of any shape.
type grown struct {
	x     api.Shape
	m     api.Masked
	n     uint64
	salt  []byte
	ways  [][]byte
	roots [][]byte
}

// grow: such a key, of Go's own sums, that start marks.
func grow(x api.Shape, n uint64, start byte) grown {
	out := grown{x: x, m: rows.Masked(start), n: n, salt: rows.Mixed(rowLen, start+3)}
	for i, p := range split(x, n) {
		way := rows.Mixed(rowLen*x.Height, start+4+byte(i))
		out.ways = append(out.ways, way)
		out.roots = append(out.roots, byOthers.led(out.m.Seed, p, leafOf(out.m, p), way))
	}
	return out
}

// root, public: the key's.
func (g grown) root() []byte   { return g.roots[len(g.roots)-1] }
func (g grown) public() []byte { return append(bytes.Clone(g.root()), g.m.Seed...) }

// sign: the key's signature of a text.
func (g grown) sign(text []byte) []byte {
	return g.signSums(append([][]byte{byOthers.textSum(g.salt, g.root(), g.n, text)}, g.roots...))
}

// signSums: a signature each layer of which signs one of these, whatever it is.
func (g grown) signSums(signs [][]byte) []byte {
	out := append(number(g.n), g.salt...)
	for i, p := range split(g.x, g.n) {
		out = slices.Concat(out, p.sign(g.m, signs[i]), g.ways[i])
	}
	return out
}

// layerLen: how many bytes a signature has of each layer.
func layerLen(x api.Shape) int { return leafSigLen + rowLen*x.Height }

// layer: what a signature has of a layer: the leaf's signature, and its way.
func layer(x api.Shape, sig []byte, i int) (leafSig, way []byte) {
	b := sig[headLen+layerLen(x)*i:][:layerLen(x)]
	return b[:leafSigLen], b[leafSigLen:]
}

// few: shapes that are soon made.
func few() []api.Shape {
	return []api.Shape{{Layers: 1, Height: 1}, {Layers: 2, Height: 1}, {Layers: 3, Height: 1}, {Layers: 1, Height: 2}, {Layers: 2, Height: 2}, {Layers: 1, Height: 3}}
}

// all: all indices of a shape.
func all(x api.Shape) []uint64 {
	var out []uint64
	for n := range uint64(1) << (x.Layers * x.Height) {
		out = append(out, n)
	}
	return out
}

// expect, nothing: how tests tell of bytes.
var expect, nothing = rows.Expect, rows.Nothing

// sign: the signature at an index, which must be there.
func sign(t *testing.T, x api.Shape, m api.Masked, n uint64, text []byte) []byte {
	t.Helper()
	sig, e := xmss.Sign(x, m, n, text)
	if e != api.OK || len(sig) != xmss.Size(x) || len(sig) == 0 {
		t.Fatalf("P16.2: Sign, %v, at %v: %v, %v bytes, not %v", x, n, e, len(sig), xmss.Size(x))
	}
	return sig
}

// refused tells where Sign doesn't answer a code alone.
func refused(t *testing.T, x api.Shape, m api.Masked, n uint64, text []byte, want api.Code, what ...any) {
	t.Helper()
	if sig, e := xmss.Sign(x, m, n, text); e != want || len(sig) != 0 {
		t.Errorf("P16.2: Sign, %v, at %v, %v: %v, %v bytes, not %v", x, n, what, e, len(sig), want)
	}
}

// fits tells where a signature doesn't fit.
func fits(t *testing.T, x api.Shape, public, text, sig []byte, what ...any) {
	t.Helper()
	if !xmss.Fits(x, public, text, sig) {
		t.Errorf("P16.3: not Fits, %v, %v", x, what)
	}
}

// none tells where one fits.
func none(t *testing.T, x api.Shape, public, text, sig []byte, what ...any) {
	t.Helper()
	if xmss.Fits(x, public, text, sig) {
		t.Errorf("P16.3: Fits, %v, %v", x, what)
	}
}
