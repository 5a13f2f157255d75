package slh_test

import (
	"bytes"
	"crypto/sha3"
	"math"
	"slices"
	"testing"

	"tearoff/adrs"
	"tearoff/api"
	"tearoff/rows"
	"tearoff/slh"
)

// tree is one of a layer.
type tree struct {
	layer  uint32
	number uint64
}

// trees: unlike ones, of up to some layers, each of whose bytes tells in one of them.
func trees(layers int) []tree {
	out := []tree{{0, 0}, {0, 0x102030405060708}, {0, math.MaxUint32}, {0, math.MaxUint64}}
	for i := range 8 {
		out = append(out, tree{0, 1 << (8 * i)}, tree{0, 128 << (8 * i)})
	}
	for layer := 1; layer < layers; layer++ {
		out = append(out, tree{uint32(layer), 0}, tree{uint32(layer), 3}, tree{uint32(layer), 1<<62 + 5})
	}
	return out
}

// P18.2: a tree of the height 1, address by address, from layer 14's tweak: secrets, chains, leaves, and the root.
func TestRootOfTwo(t *testing.T) {
	for n, p := range chains {
		f, m := api.Few{N: n, Layers: 3, Height: 1, K: 1, A: 1}, rows.MaskedOf(n, 11)
		for _, c := range trees(3) {
			var leaves [][]byte
			for q := range uint32(2) {
				var ends [][]byte
				for i := range uint32(p) {
					x := adrs.Tweak(n, m.Seed, api.Adrs{Layer: c.layer, Tree: c.number, Kind: 5, A: q, B: i, C: 0}, m.Secret)
					for j := range uint32(15) {
						x = adrs.Tweak(n, m.Seed, api.Adrs{Layer: c.layer, Tree: c.number, Kind: 0, A: q, B: i, C: j}, x)
					}
					ends = append(ends, x)
				}
				leaves = append(leaves, adrs.Tweak(n, m.Seed, api.Adrs{Layer: c.layer, Tree: c.number, Kind: 1, A: q, B: 0, C: 0}, slices.Concat(ends...)))
			}
			want := adrs.Tweak(n, m.Seed, api.Adrs{Layer: c.layer, Tree: c.number, Kind: 2, A: 0, B: 1, C: 0}, slices.Concat(leaves...))
			expect(t, slh.Root(f, m, c.layer, c.number), want, "P18.2: Root", n, c)
			for _, means := range allMeans {
				g := means.grow(f, m, c.layer, c.number)
				expect(t, g.root(), want, "the root, put together", n, c)
				expect(t, g.way(0), leaves[1], "a way, put together", n, c)
				expect(t, g.way(1), leaves[0], "a way, put together", n, c)
			}
		}
	}
}

// P18.2: a tree of the height 2, of leaves put together.
func TestRootOfFour(t *testing.T) {
	f, m := api.Few{N: 24, Layers: 2, Height: 2, K: 1, A: 1}, rows.MaskedOf(24, 12)
	for _, c := range trees(2) {
		leaf := func(q uint32) []byte { return byLayer.leaf(f, m, place{c.layer, c.number, q}) }
		sum := func(b, i uint32, left, right []byte) []byte {
			return adrs.Tweak(24, m.Seed, api.Adrs{Layer: c.layer, Tree: c.number, Kind: 2, B: b, C: i}, slices.Concat(left, right))
		}
		want := sum(2, 0, sum(1, 0, leaf(0), leaf(1)), sum(1, 1, leaf(2), leaf(3)))
		expect(t, slh.Root(f, m, c.layer, c.number), want, "P18.2: Root", c)
	}
}

// P18.2: the least leaf's first secret and step, and its sum, worked out as bytes, in a tree each of whose bytes tells.
func TestWorkedOut(t *testing.T) {
	f, m := api.Few{N: 16, Layers: 22, Height: 1, K: 1, A: 1}, rows.MaskedOf(16, 13)
	worked := func(kind, a, b, c byte, text []byte) []byte {
		at := []byte{0, 0, 0, 21, 0, 0, 0, 0, 1, 2, 3, 4, 5, 6, 7, 8, 0, 0, 0, kind, 0, 0, 0, a, 0, 0, 0, b, 0, 0, 0, c}
		return sha3.SumSHAKE256(slices.Concat(m.Seed, at, text), 16)
	}
	var leaves []byte
	for q := range byte(2) {
		var ends []byte
		for i := range byte(35) {
			x := worked(5, q, i, 0, m.Secret)
			for j := range byte(15) {
				x = worked(0, q, i, j, x)
			}
			ends = append(ends, x...)
		}
		leaves = append(leaves, worked(1, q, 0, 0, ends)...)
	}
	expect(t, slh.Root(f, m, 21, 0x102030405060708), worked(2, 0, 1, 0, leaves), "P18.2: Root, worked out")
}

// P18.2: trees of small sets, of many secrets, put together; all roots of a key are unlike.
func TestRoots(t *testing.T) {
	for _, f := range few() {
		for i, m := range rows.MaskedsOf(f.N) {
			told := map[string]tree{}
			for _, c := range trees(f.Layers) {
				if i > 0 && c.number > 1 {
					continue
				}
				got := slh.Root(f, m, c.layer, c.number)
				expect(t, got, byOthers.grow(f, m, c.layer, c.number).root(), "P18.2: Root", f, c)
				if was, is := told[string(got)]; is {
					t.Errorf("P18.2: Root, %v: %v and %v: the same", f, was, c)
				}
				told[string(got)] = c
			}
		}
	}
}

// P18.2: each height that can be made.
func TestRootOfEachHeight(t *testing.T) {
	for height := 1; height <= 6; height++ {
		f := api.Few{N: []int{16, 24, 32}[height%3], Layers: 11, Height: height, K: 1, A: 1}
		m := rows.MaskedOf(f.N, 14)
		expect(t, slh.Root(f, m, 10, 0), byOthers.grow(f, m, 10, 0).root(), "P18.2: Root", f)
		expect(t, slh.Root(f, m, 4, 77), byOthers.grow(f, m, 4, 77).root(), "P18.2: Root", f)
	}
}

// P18.2: a root hangs neither on how many layers there are, nor on what is told.
func TestRootOfOtherSets(t *testing.T) {
	m := rows.MaskedOf(16, 15)
	want := byOthers.grow(api.Few{N: 16, Layers: 1, Height: 2, K: 1, A: 1}, m, 0, 9).root()
	for _, layers := range []int{1, 2, 3, 7, 21, 22} {
		for _, ka := range [][2]int{{1, 1}, {2, 3}, {40, 6}} {
			f := api.Few{N: 16, Layers: layers, Height: 2, K: ka[0], A: ka[1]}
			expect(t, slh.Root(f, m, 0, 9), want, "P18.2: Root", f)
		}
	}
}

// P18.2: no tree of a layer that there isn't.
func TestNoLayer(t *testing.T) {
	for _, f := range few() {
		m, d := rows.MaskedOf(f.N, 16), uint32(f.Layers)
		for _, layer := range []uint32{d, d + 1, d + 22, d + 64, 256, 256 + d - 1, 1<<16 + d - 1, 1 << 31, 1<<31 + d - 1, math.MaxUint32 - 1, math.MaxUint32} {
			for _, number := range []uint64{0, 1, math.MaxUint64} {
				nothing(t, slh.Root(f, m, layer, number), "P18.2: Root, no such layer", f, layer)
			}
		}
		expect(t, slh.Root(f, m, d-1, 1), byOthers.grow(f, m, d-1, 1).root(), "P18.2: Root, the last layer", f)
	}
}

// expectNone tells where something is made of a set and secrets.
func expectNone(t *testing.T, f api.Few, m api.Masked, what ...any) {
	t.Helper()
	nothing(t, slh.Public(f, m), "P18.2: Public", f, what)
	for _, layer := range []uint32{0, 1, uint32(f.Layers - 1), math.MaxUint32} {
		nothing(t, slh.Root(f, m, layer, 0), "P18.2: Root", f, layer, what)
		nothing(t, slh.Root(f, m, layer, 7), "P18.2: Root", f, layer, what)
	}
	for _, extra := range [][]byte{m.Seed, m.Salt, rows.Mixed(16, 17), rows.Mixed(24, 17), rows.Mixed(32, 17), nil} {
		refused(t, f, m, extra, nil, what)
		refused(t, f, m, extra, []byte("text"), what)
	}
	if t.Failed() {
		// What is too high takes long to make: one such is enough.
		t.FailNow()
	}
}

// P18.2: nothing of sets that may not be, nor of such as may be, but can't be made.
func TestNothingOfSets(t *testing.T) {
	for _, f := range append(rows.NoFews(), rows.HighFews()...) {
		for _, n := range []int{0, 16, 24, 32} {
			expectNone(t, f, rows.MaskedOf(n, 18), "secrets of", n)
		}
		if f.N > 0 && f.N < 1<<17 {
			expectNone(t, f, rows.MaskedOf(f.N, 18))
		}
	}
}

// P18.2: nothing of secrets of which one row, or all, have a byte more or less, or any other length.
func TestNothingOfSecrets(t *testing.T) {
	for _, f := range few()[:8] {
		for _, m := range rows.NoMaskedsOf(f.N) {
			expectNone(t, f, m, len(m.Secret), len(m.Salt), len(m.Seed))
		}
		for _, n := range []int{f.N - 1, f.N + 1} {
			for what, m := range rows.WithRow(rows.MaskedOf(f.N, 19), rows.Mixed(n, 20)) {
				expectNone(t, f, m, what, n)
			}
		}
	}
}

// P18.2: the public key is Seed, and the root of the highest layer's tree 0.
func TestPublic(t *testing.T) {
	for _, f := range append(few(), api.Few{N: 16, Layers: 22, Height: 3, K: 33, A: 6}, api.Few{N: 32, Layers: 1, Height: 6, K: 1, A: 1}, api.Few{N: 24, Layers: 11, Height: 6, K: 40, A: 6}) {
		for i, m := range rows.MaskedsOf(f.N) {
			if i > 0 && f.Height > 3 {
				continue
			}
			got := slh.Public(f, m)
			if len(got) != 2*f.N {
				t.Fatalf("P18.2: Public, %v: %v bytes", f, len(got))
			}
			expect(t, got[:f.N], m.Seed, "P18.2: Public, the seed", f)
			expect(t, got[f.N:], slh.Root(f, m, uint32(f.Layers-1), 0), "P18.2: Public, the root", f)
			expect(t, got, byOthers.public(f, m), "P18.2: Public", f)
		}
	}
}

// P18.2: each byte of the secret and of the seed tells in the root, no byte of the salt does.
func TestSecretsTell(t *testing.T) {
	for n := range chains {
		f, m := api.Few{N: n, Layers: 2, Height: 1, K: 1, A: 1}, rows.MaskedOf(n, 21)
		pub := slh.Public(f, m)
		for at := range n {
			for _, other := range []api.Masked{
				{Secret: rows.Turned(m.Secret, at), Salt: m.Salt, Seed: m.Seed},
				{Secret: m.Secret, Salt: m.Salt, Seed: rows.Turned(m.Seed, at)},
			} {
				got := slh.Public(f, other)
				expect(t, got, byOthers.public(f, other), "P18.2: Public, another byte", n, at)
				if bytes.Equal(got[n:], pub[n:]) {
					t.Errorf("P18.2: Public, another byte %v of %v: the same root", at, n)
				}
			}
			salted := api.Masked{Secret: m.Secret, Salt: rows.Turned(m.Salt, at), Seed: m.Seed}
			expect(t, slh.Public(f, salted), pub, "P18.2: Public, another salt", n, at)
		}
	}
}
