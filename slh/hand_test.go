package slh_test

import (
	"crypto/sha3"
	"fmt"
	"slices"
	"testing"

	"tearoff/adrs"
	"tearoff/api"
	"tearoff/fors"
	"tearoff/rows"
	"tearoff/slh"
)

// means are what the answers are put together with here: sums without masks. What is told, and the whole, are layer 17's.
type means func(n int, seed []byte, a api.Adrs, text []byte) []byte

// byLayer is the layer 14, byOthers is Go's own SHAKE256.
var (
	byLayer  = means(adrs.Tweak)
	byOthers = means(rows.Wide(sha3.SumSHAKE256).Tweak)
	allMeans = []means{byLayer, byOthers}
)

// top is how high a chain goes.
const top = 15

// place is where a leaf is.
type place struct {
	layer uint32
	tree  uint64
	q     uint32
}

// at: an address of a leaf.
func (p place) at(kind uint32, b, c int) api.Adrs {
	return api.Adrs{Layer: p.layer, Tree: p.tree, Kind: kind, A: p.q, B: uint32(b), C: uint32(c)}
}

// secret: that of a chain.
func (w means) secret(f api.Few, m api.Masked, p place, i int) []byte {
	return w(f.N, m.Seed, p.at(5, i, 0), m.Secret)
}

// up: x, gone up step by step.
func (w means) up(f api.Few, seed []byte, p place, i, from, to int, x []byte) []byte {
	for j := from; j < to; j++ {
		x = w(f.N, seed, p.at(0, i, j), x)
	}
	return x
}

// leaf: the sum of a leaf, of its secrets.
func (w means) leaf(f api.Few, m api.Masked, p place) []byte {
	var ends []byte
	for i := range chains[f.N] {
		ends = append(ends, w.up(f, m.Seed, p, i, 0, top, w.secret(f, m, p, i))...)
	}
	return w(f.N, m.Seed, p.at(1, 0, 0), ends)
}

// chains: of each size of a sum how many chains there are.
var chains = map[int]int{16: 35, 24: 51, 32: 67}

// above: the i-th sum of a height, of the two below it.
func (w means) above(f api.Few, seed []byte, p place, height, i int, left, right []byte) []byte {
	a := api.Adrs{Layer: p.layer, Tree: p.tree, Kind: 2, A: 0, B: uint32(height), C: uint32(i)}
	return w(f.N, seed, a, slices.Concat(left, right))
}

// grown is all sums of a tree, height by height, of any height.
type grown [][][]byte

// grow: such, put together row by row.
func (w means) grow(f api.Few, m api.Masked, layer uint32, tree uint64) grown {
	var list [][]byte
	for q := range 1 << f.Height {
		list = append(list, w.leaf(f, m, place{layer, tree, uint32(q)}))
	}
	out := grown{list}
	for height := 1; height <= f.Height; height++ {
		var next [][]byte
		for i := 0; i < len(list); i += 2 {
			next = append(next, w.above(f, m.Seed, place{layer, tree, 0}, height, i/2, list[i], list[i+1]))
		}
		list = next
		out = append(out, list)
	}
	return out
}

// root: the sum that stands alone.
func (g grown) root() []byte { return g[len(g)-1][0] }

// way: that of a leaf.
func (g grown) way(q uint32) []byte {
	var out []byte
	for _, list := range g[:len(g)-1] {
		other := list[q-q%2]
		if q%2 == 0 {
			other = list[q+1]
		}
		out, q = append(out, other...), q/2
	}
	return out
}

// led: where a leaf, and any way, lead.
func (w means) led(f api.Few, seed []byte, p place, leaf, way []byte) []byte {
	sum := leaf
	for height := 1; height <= f.Height; height++ {
		two := [][]byte{sum, row(f, way, height-1)}
		if p.q>>(height-1)&1 != 0 {
			slices.Reverse(two)
		}
		sum = w.above(f, seed, p, height, int(p.q>>height), two[0], two[1])
	}
	return sum
}

// signs: what the chains of a leaf are that signs a sum.
func (w means) signs(f api.Few, m api.Masked, p place, sum []byte) []byte {
	var out []byte
	for i, d := range rows.Digits(sum) {
		out = append(out, w.up(f, m.Seed, p, i, 0, d, w.secret(f, m, p, i))...)
	}
	return out
}

// public: the public key, put together.
func (w means) public(f api.Few, m api.Masked) []byte {
	return slices.Concat(m.Seed, w.grow(f, m, uint32(f.Layers-1), 0).root())
}

// wide: the SHAKE256 of rows, one behind the other, as others sum it.
func wide(n int, list ...[]byte) []byte { return sha3.SumSHAKE256(slices.Concat(list...), n) }

// enough: how many bytes have so many bits.
func enough(bits int) int {
	n := 0
	for 8*n < bits {
		n++
	}
	return n
}

// lengths: how many bytes of a digest pick what is told, how many tell the tree, and how many the leaf.
func lengths(f api.Few) (a, b, c int) {
	return enough(f.K * f.A), enough(f.Layers*f.Height - f.Height), enough(f.Height)
}

// digestLen: how many bytes a digest has.
func digestLen(f api.Few) int {
	a, b, c := lengths(f)
	return a + b + c
}

// parted: what picks what is told in a digest, the tree and the leaf, read off the letters of its bits.
func parted(f api.Few, digest []byte) (picks []byte, tree uint64, q uint32) {
	a, b, _ := lengths(f)
	trees, leaves := rows.Bits(digest[a:a+b]), rows.Bits(digest[a+b:])
	return digest[:a], rows.FromBits(trees[len(trees)-f.Layers*f.Height+f.Height:]), uint32(rows.FromBits(leaves[len(leaves)-f.Height:]))
}

// split: the leaves that sign, layer by layer, read off the letters of the lowest layer's.
func split(f api.Few, tree uint64, q uint32) []place {
	text := fmt.Sprintf("%0*b%0*b", f.Layers*f.Height, tree, f.Height, q)
	var out []place
	for layer := range f.Layers {
		at := len(text) - f.Height
		out = append(out, place{uint32(layer), rows.FromBits(text[:at]), uint32(rows.FromBits(text[at:]))})
		text = text[:at]
	}
	return out
}

// flat: a set of which the same is told, but with a low tree above, whatever stands above in the set: so it may be, and can be made.
func flat(f api.Few) api.Few { return api.Few{N: f.N, Layers: 1, Height: 1, K: f.K, A: f.A} }

// sign: the signature of a text, put together, of trees of any height.
func (w means) sign(f api.Few, m api.Masked, extra, text []byte) []byte {
	salt := wide(f.N, m.Salt, extra, text)
	picks, tree, q := parted(f, wide(digestLen(f), salt, w.public(f, m), text))
	out := append(salt, fors.Tell(flat(f), m, tree, q, picks)...)
	sum := fors.Whole(flat(f), m, tree, q)
	for _, p := range split(f, tree, q) {
		g := w.grow(f, m, p.layer, p.tree)
		out = slices.Concat(out, w.signs(f, m, p, sum), g.way(p.q))
		sum = g.root()
	}
	return out
}

// forged is a key of which the highest tree alone is whole, and any rows for all else beside the leaves that sign one text: so it can be of any set.
type forged struct {
	f      api.Few
	m      api.Masked
	public []byte
	salt   []byte
	told   []byte
	places []place
	ways   [][]byte
	// sums are what the layers sign, and the highest root behind these.
	sums [][]byte
}

// forge: such a key, of Go's own sums, that start marks.
func forge(f api.Few, start byte, text []byte) forged {
	return forgeBy(f, start, func(g forged) []byte { return wide(digestLen(f), g.salt, g.public, text) })
}

// forgeBy: likewise, of any digest.
func forgeBy(f api.Few, start byte, digest func(g forged) []byte) forged {
	m := rows.MaskedOf(f.N, start)
	whole := byOthers.grow(f, m, uint32(f.Layers-1), 0)
	out := forged{f: f, m: m, public: slices.Concat(m.Seed, whole.root()), salt: rows.Mixed(f.N, start+3), told: rows.Mixed(toldLen(f), start+4)}
	picks, tree, q := parted(f, digest(out))
	sum := fors.Stands(flat(f), m.Seed, tree, q, picks, out.told)
	out.places, out.sums = split(f, tree, q), [][]byte{sum}
	for i, p := range out.places {
		way := rows.Mixed(f.N*f.Height, start+5+byte(i))
		if i == f.Layers-1 {
			way = whole.way(p.q)
		}
		sum = byOthers.led(f, m.Seed, p, byOthers.leaf(f, m, p), way)
		out.ways, out.sums = append(out.ways, way), append(out.sums, sum)
	}
	return out
}

// sig: the key's signature of the text.
func (g forged) sig() []byte { return g.signed(g.sums) }

// signed: a signature each layer of which signs one of these, whatever it is.
func (g forged) signed(sums [][]byte) []byte {
	out := slices.Concat(g.salt, g.told)
	for i, p := range g.places {
		out = slices.Concat(out, byOthers.signs(g.f, g.m, p, sums[i]), g.ways[i])
	}
	return out
}

// row: a row of as many bytes as a sum of the set has.
func row(f api.Few, b []byte, i int) []byte { return b[f.N*i : f.N*(i+1)] }

// toldLen, partLen, sigLen: how many bytes a signature has of what is told, of each layer, and in all.
func toldLen(f api.Few) int { return f.K*f.A*f.N + f.K*f.N }
func partLen(f api.Few) int { return f.N*chains[f.N] + f.N*f.Height }
func sigLen(f api.Few) int  { return f.N + toldLen(f) + f.Layers*partLen(f) }

// part: what a signature has of a layer: its chains, and its way.
func part(f api.Few, sig []byte, layer int) (chain, way []byte) {
	b := sig[f.N+toldLen(f)+layer*partLen(f):][:partLen(f)]
	return b[:f.N*chains[f.N]], b[f.N*chains[f.N]:]
}

// few: sets that are soon made: of one layer and more; K * A bits are a whole number of bytes in some, and all bits of the trees too.
func few() []api.Few {
	return []api.Few{
		{N: 16, Layers: 1, Height: 1, K: 1, A: 1}, {N: 16, Layers: 1, Height: 2, K: 3, A: 2}, {N: 16, Layers: 1, Height: 1, K: 2, A: 4}, {N: 16, Layers: 2, Height: 2, K: 8, A: 3},
		{N: 16, Layers: 5, Height: 2, K: 5, A: 3}, {N: 16, Layers: 9, Height: 1, K: 1, A: 6}, {N: 24, Layers: 1, Height: 2, K: 4, A: 2}, {N: 24, Layers: 3, Height: 1, K: 6, A: 4},
		{N: 24, Layers: 2, Height: 2, K: 2, A: 5}, {N: 32, Layers: 1, Height: 1, K: 9, A: 3}, {N: 32, Layers: 2, Height: 1, K: 1, A: 2}, {N: 32, Layers: 3, Height: 2, K: 2, A: 1},
	}
}

// expect, nothing, unlike: how tests tell of bytes.
var expect, nothing, unlike = rows.Expect, rows.Nothing, rows.Unlike

// sign: the signature of a text, which must be there.
func sign(t *testing.T, f api.Few, m api.Masked, extra, text []byte) []byte {
	t.Helper()
	sig, e := slh.Sign(f, m, extra, text)
	if e != api.OK || len(sig) != sigLen(f) {
		t.Fatalf("P18.2: Sign, %v: %v, %v bytes, not %v", f, e, len(sig), sigLen(f))
	}
	return sig
}

// refused tells where Sign doesn't answer Arg alone.
func refused(t *testing.T, f api.Few, m api.Masked, extra, text []byte, what ...any) {
	t.Helper()
	if sig, e := slh.Sign(f, m, extra, text); e != api.Arg || len(sig) != 0 {
		t.Errorf("P18.2: Sign, %v, %v: %v, %v bytes, not Arg", f, what, e, len(sig))
	}
}

// fits tells where a signature doesn't fit.
func fits(t *testing.T, f api.Few, public, text, sig []byte, what ...any) {
	t.Helper()
	if !slh.Fits(f, public, text, sig) {
		t.Errorf("P18.3: not Fits, %v, %v", f, what)
	}
}

// none tells where one fits.
func none(t *testing.T, f api.Few, public, text, sig []byte, what ...any) {
	t.Helper()
	if slh.Fits(f, public, text, sig) {
		t.Errorf("P18.3: Fits, %v, %v", f, what)
	}
}
