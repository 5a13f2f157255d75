package slh_test

import (
	"bytes"
	"slices"
	"testing"

	"tearoff/api"
	"tearoff/rows"
	"tearoff/slh"
)

// P18.3: a key of two whole trees of the height 7, put together: what it signed fits, though it can't be made.
func TestHighTrees(t *testing.T) {
	f := api.Few{N: 16, Layers: 2, Height: 7, K: 5, A: 3}
	m := rows.MaskedOf(16, 91)
	pub := byOthers.public(f, m)
	for _, text := range [][]byte{nil, []byte("seven")} {
		sig := byOthers.sign(f, m, m.Salt, text)
		fits(t, f, pub, text, sig)
		none(t, f, pub, append([]byte{0}, text...), sig, "another text")
		none(t, f, pub, text, rows.Turned(sig, len(sig)-1), "the last byte turned")
		refused(t, f, m, m.Salt, text)
	}
	nothing(t, slh.Public(f, m), "P18.2: Public, of the same")
}

// expectForged tells where what was forged doesn't fit, or fits with a row of each kind turned. (With -short: of 16 bytes alone.)
func expectForged(t *testing.T, f api.Few, start byte) {
	t.Helper()
	if testing.Short() && f.N > 16 {
		return
	}
	text := rows.Mixed(int(start), start)
	g := forge(f, start, text)
	sig := g.sig()
	if !bytes.Equal(g.public[f.N:], g.sums[f.Layers]) {
		t.Fatalf("%v: what was forged leads elsewhere", f)
	}
	fits(t, f, g.public, text, sig, "forged")
	if len(sig) != slh.Size(f) {
		t.Errorf("P18.1: Size, %v: %v, not %v", f, slh.Size(f), len(sig))
	}
	low := f.N + toldLen(f)
	for _, at := range []int{0, f.N, low - 1, low, low + chains[f.N]*f.N - 1, low + chains[f.N]*f.N, low + partLen(f) - 1, len(sig) - 1} {
		none(t, f, g.public, text, rows.Turned(sig, at), "a byte turned", at)
	}
	none(t, f, g.public, append(text, 0), sig, "another text")
	none(t, f, rows.Turned(g.public, 0), text, sig, "another seed")
	none(t, f, rows.Turned(g.public, 2*f.N-1), text, sig, "another root")
}

// P18.3: sets that may be, but can't be made, by their heights, against sums put together by hand.
func TestForgedHeights(t *testing.T) {
	for _, n := range []int{16, 24, 32} {
		for height := 7; height <= 9; height++ {
			for _, layers := range []int{1, 2, rows.MostLayers()[height-1]} {
				expectForged(t, api.Few{N: n, Layers: layers, Height: height, K: 1 + 3*layers, A: height}, byte(92+layers))
			}
		}
	}
}

// P18.3: the same by how high the trees are of which secrets are told.
func TestForgedTold(t *testing.T) {
	for _, n := range []int{16, 24, 32} {
		for a := 7; a <= 14; a++ {
			for _, k := range []int{1, 2, 8, 39, 40} {
				expectForged(t, api.Few{N: n, Layers: 1 + k%3, Height: 1 + (k+a)%3, K: k, A: a}, byte(k+a))
			}
		}
	}
}

// P18.3: the same of many numbers of layers, and of heights of up to 6, which can be made.
func TestForgedLayers(t *testing.T) {
	for i, most := range rows.MostLayers()[:6] {
		for layers := 1; layers <= most; layers++ {
			if layers > 3 && (layers+i)%5 > 0 && layers != most {
				continue
			}
			expectForged(t, api.Few{N: []int{16, 24, 32}[(i+layers)%3], Layers: layers, Height: i + 1, K: 9 + i, A: 2 + layers%5}, byte(100+i+layers))
		}
	}
}

// P18.3: where a layer signs another sum than what is below it, it doesn't fit.
func TestOtherSums(t *testing.T) {
	text := []byte("sums")
	for _, f := range []api.Few{{N: 16, Layers: 1, Height: 7, K: 2, A: 2}, {N: 24, Layers: 3, Height: 2, K: 3, A: 9}} {
		g := forge(f, 131, text)
		fits(t, f, g.public, text, g.signed(g.sums))
		for layer := range f.Layers {
			for what, sum := range map[string][]byte{"a bit": rows.Turned(g.sums[layer], f.N-1), "the root above": g.sums[layer+1], "the salt": g.salt, "the seed": g.m.Seed, "the text's": wide(f.N, text), "noughts": make([]byte, f.N)} {
				other := slices.Clone(g.sums)
				other[layer] = sum
				none(t, f, g.public, text, g.signed(other), "layer", layer, what)
			}
		}
	}
}

// P18.3: of another digest than that of the salt, the public key and the text, in this order, nothing fits that would of that one.
func TestOtherDigests(t *testing.T) {
	text := []byte("digests")
	for _, f := range []api.Few{{N: 16, Layers: 4, Height: 6, K: 20, A: 7}, {N: 32, Layers: 1, Height: 7, K: 9, A: 8}} {
		seed := func(g forged) []byte { return g.public[:f.N] }
		root := func(g forged) []byte { return g.public[f.N:] }
		digest := func(list ...[]byte) []byte { return wide(digestLen(f), list...) }
		for what, by := range map[string]func(g forged) []byte{
			"of no salt":           func(g forged) []byte { return digest(g.public, text) },
			"of no public key":     func(g forged) []byte { return digest(g.salt, text) },
			"of no text":           func(g forged) []byte { return digest(g.salt, g.public) },
			"of no seed":           func(g forged) []byte { return digest(g.salt, root(g), text) },
			"of no root":           func(g forged) []byte { return digest(g.salt, seed(g), text) },
			"of root and seed":     func(g forged) []byte { return digest(g.salt, root(g), seed(g), text) },
			"of the text at first": func(g forged) []byte { return digest(text, g.salt, g.public) },
			"of the salt behind":   func(g forged) []byte { return digest(g.public, g.salt, text) },
			"of the key behind":    func(g forged) []byte { return digest(g.salt, text, g.public) },
			"of another salt":      func(g forged) []byte { return digest(rows.Turned(g.salt, 0), g.public, text) },
			"of Salt":              func(g forged) []byte { return digest(g.m.Salt, g.public, text) },
			"of a byte behind":     func(g forged) []byte { return digest(g.salt, g.public, text, []byte{0}) },
			"of bytes 0":           func(forged) []byte { return make([]byte, digestLen(f)) },
			"a byte on":            func(g forged) []byte { return wide(digestLen(f)+1, g.salt, g.public, text)[1:] },
		} {
			g := forgeBy(f, 132, by)
			none(t, f, g.public, text, g.sig(), "a digest", what)
		}
		g := forge(f, 132, text)
		fits(t, f, g.public, text, g.sig())
	}
}

// P18.3: another root than the one that a signature leads to, even where the digest is of that.
func TestOtherRoots(t *testing.T) {
	text := []byte("roots")
	f := api.Few{N: 24, Layers: 3, Height: 3, K: 4, A: 8}
	right := forge(f, 133, text)
	for what, root := range map[string][]byte{"noughts": make([]byte, 24), "a bit": rows.Turned(right.public[24:], 23), "the seed": right.m.Seed, "the root below": right.sums[2], "the whole": right.sums[0]} {
		public := slices.Concat(right.m.Seed, root)
		g := forgeBy(f, 133, func(g forged) []byte { return wide(digestLen(f), g.salt, public, text) })
		none(t, f, public, text, g.sig(), "another root", what)
	}
	fits(t, f, right.public, text, right.sig())
}
