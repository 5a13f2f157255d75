package slh_test

import (
	"bytes"
	"slices"
	"testing"

	"tearoff/adrs"
	"tearoff/api"
	"tearoff/fors"
	"tearoff/rows"
	"tearoff/shake"
	"tearoff/slh"
)

// P18.2: a signature of two layers of the height 1, written out, from layer 14's tweak: each part at its place.
func TestSignWrittenOut(t *testing.T) {
	for n := range chains {
		f, m := api.Few{N: n, Layers: 2, Height: 1, K: 2, A: 2}, rows.MaskedOf(n, 31)
		for _, text := range [][]byte{nil, []byte("a"), []byte("b"), []byte("c"), []byte("d"), []byte("e"), []byte("f")} {
			extra := rows.Mixed(n, 32)
			sig := sign(t, f, m, extra, text)
			salt := shake.Sum(slices.Concat(m.Salt, extra, text), n)
			expect(t, row(f, sig, 0), salt, "P18.2: Sign, the salt", n)
			// A byte each: four bits that pick what is told, and one each of the tree and the leaf.
			digest := shake.Sum(slices.Concat(salt, slh.Public(f, m), text), 3)
			number, q := uint64(digest[1]&1), uint32(digest[2]&1)
			expect(t, sig[n:7*n], fors.Tell(f, m, number, q, digest[:1]), "P18.2: Sign, what is told", n)
			signs := fors.Whole(f, m, number, q)
			for layer, p := range []place{{0, number, q}, {1, 0, uint32(number)}} {
				chain, way := part(f, sig, layer)
				for i, d := range rows.Digits(signs) {
					x := adrs.Tweak(n, m.Seed, api.Adrs{Layer: p.layer, Tree: p.tree, Kind: 5, A: p.q, B: uint32(i)}, m.Secret)
					for j := range uint32(d) {
						x = adrs.Tweak(n, m.Seed, api.Adrs{Layer: p.layer, Tree: p.tree, Kind: 0, A: p.q, B: uint32(i), C: j}, x)
					}
					expect(t, row(f, chain, i), x, "P18.2: Sign, a chain", n, layer, i)
				}
				expect(t, way, byLayer.leaf(f, m, place{p.layer, p.tree, 1 - p.q}), "P18.2: Sign, a way", n, layer)
				signs = slh.Root(f, m, p.layer, p.tree)
			}
		}
	}
}

// P18.2: each part at its place, of small sets: of each layer the leaf's chains and its way, from the whole on, the tree and the leaf above each.
func TestSignParts(t *testing.T) {
	for _, f := range few() {
		m, extra, text := rows.MaskedOf(f.N, 33), rows.Mixed(f.N, 34), []byte("parts")
		sig := sign(t, f, m, extra, text)
		salt := row(f, sig, 0)
		expect(t, salt, wide(f.N, m.Salt, extra, text), "P18.2: Sign, the salt", f)
		digest := wide(digestLen(f), salt, m.Seed, slh.Root(f, m, uint32(f.Layers-1), 0), text)
		number, q, ok := slh.Where(f, digest)
		picks, _, _ := lengths(f)
		expect(t, sig[f.N:][:toldLen(f)], fors.Tell(f, m, number, q, digest[:picks]), "P18.2: Sign, what is told", f, ok)
		signs := fors.Whole(f, m, number, q)
		for layer := range f.Layers {
			p := place{uint32(layer), number, q}
			chain, way := part(f, sig, layer)
			expect(t, chain, byLayer.signs(f, m, p, signs), "P18.2: Sign, the chains", f, layer)
			expect(t, way, byLayer.grow(f, m, p.layer, p.tree).way(p.q), "P18.2: Sign, the way", f, layer)
			signs = slh.Root(f, m, p.layer, p.tree)
			number, q = number/(1<<f.Height), uint32(number%(1<<f.Height))
		}
		if number != 0 || q != 0 {
			t.Errorf("P18.2: Sign, %v: above all layers the tree %v, the leaf %v", f, number, q)
		}
	}
}

// P18.2: signatures of small sets, put together, of many secrets; of the empty text and longer ones; of unlike extras.
func TestSign(t *testing.T) {
	for _, f := range few() {
		for i, m := range rows.MaskedsOf(f.N) {
			for j, text := range [][]byte{nil, {0}, []byte("a text"), rows.Mixed(200, 35)} {
				for k, extra := range [][]byte{rows.Mixed(f.N, 36), m.Seed, make([]byte, f.N), bytes.Repeat([]byte{255}, f.N)} {
					if f.Layers > 1 && (i+j+k)%4 > 0 {
						continue
					}
					expect(t, sign(t, f, m, extra, text), byOthers.sign(f, m, extra, text), "P18.2: Sign", f, i, j, k)
				}
			}
		}
	}
	for _, f := range few()[:6] {
		m, extra := rows.MaskedOf(f.N, 37), rows.Mixed(f.N, 38)
		expect(t, sign(t, f, m, extra, []byte("text")), byLayer.sign(f, m, extra, []byte("text")), "P18.2: Sign, by layer 14", f)
	}
}

// P18.2, P18.4: the chapter's set, and high ones that can be made. (With -short: the first one alone.)
func TestSignHigh(t *testing.T) {
	text := []byte("high")
	for i, f := range []api.Few{{N: 16, Layers: 22, Height: 3, K: 33, A: 6}, {N: 32, Layers: 1, Height: 6, K: 40, A: 6}, {N: 24, Layers: 11, Height: 6, K: 7, A: 4}, {N: 32, Layers: 22, Height: 1, K: 40, A: 1}, {N: 24, Layers: 16, Height: 4, K: 9, A: 5}} {
		if i > 0 && testing.Short() {
			break
		}
		m := rows.MaskedOf(f.N, 39)
		sig := sign(t, f, m, m.Seed, text)
		expect(t, sig, byOthers.sign(f, m, m.Seed, text), "P18.2: Sign", f)
		fits(t, f, slh.Public(f, m), text, sig)
	}
}

// P18.2: of unlike extras the salts are unlike, and all else that hangs on them; each byte of an extra tells.
func TestExtras(t *testing.T) {
	f, m, text := api.Few{N: 16, Layers: 2, Height: 2, K: 4, A: 5}, rows.MaskedOf(16, 40), []byte("extra")
	extra := rows.Mixed(16, 41)
	told := map[string]bool{string(row(f, sign(t, f, m, extra, text), 0)): true}
	for at := range 16 {
		other := rows.Turned(extra, at)
		sig := sign(t, f, m, other, text)
		expect(t, sig, byOthers.sign(f, m, other, text), "P18.2: Sign, another extra", at)
		expect(t, sign(t, f, m, other, text), sig, "P18.2: Sign, the same extra", at)
		told[string(row(f, sig, 0))] = true
	}
	if len(told) != 17 {
		t.Errorf("P18.2: Sign, of 17 extras %v salts", len(told))
	}
}

// P18.2: each byte of the secret, the salt and the seed tells.
func TestSignSecrets(t *testing.T) {
	f, m, text := api.Few{N: 24, Layers: 1, Height: 1, K: 1, A: 1}, rows.MaskedOf(24, 42), []byte("secrets")
	extra := rows.Mixed(24, 43)
	sig := sign(t, f, m, extra, text)
	for at := range 24 {
		for what, other := range map[string]api.Masked{
			"Secret": {Secret: rows.Turned(m.Secret, at), Salt: m.Salt, Seed: m.Seed},
			"Salt":   {Secret: m.Secret, Salt: rows.Turned(m.Salt, at), Seed: m.Seed},
			"Seed":   {Secret: m.Secret, Salt: m.Salt, Seed: rows.Turned(m.Seed, at)},
		} {
			got := sign(t, f, other, extra, text)
			expect(t, got, byOthers.sign(f, other, extra, text), "P18.2: Sign, another byte of", what, at)
			unlike(t, got, sig, "P18.2: Sign, another byte of", what, at)
			if same := bytes.Equal(row(f, got, 0), row(f, sig, 0)); same != (what != "Salt") {
				t.Errorf("P18.2: Sign, another byte of %v, %v: of the salts' being the same: %v", what, at, same)
			}
		}
	}
}

// P18.2, P18.3: texts of many lengths, of MaxText bytes too.
func TestTexts(t *testing.T) {
	for _, f := range []api.Few{{N: 16, Layers: 1, Height: 1, K: 2, A: 2}, {N: 32, Layers: 2, Height: 1, K: 1, A: 3}} {
		m := rows.MaskedOf(f.N, 44)
		extra, pub := rows.Mixed(f.N, 45), slh.Public(f, m)
		for _, length := range []int{0, 1, 23, 24, 31, 32, 33, 71, 72, 73, 87, 88, 103, 104, 105, 135, 136, 137, 1000, api.MaxText - 1, api.MaxText} {
			for _, text := range [][]byte{rows.Mixed(length, 46), make([]byte, length)} {
				sig := sign(t, f, m, extra, text)
				expect(t, sig, byOthers.sign(f, m, extra, text), "P18.2: Sign, bytes of the text", f, length)
				fits(t, f, pub, text, sig, "bytes of the text", length)
			}
		}
		expect(t, sign(t, f, m, extra, nil), sign(t, f, m, extra, []byte{}), "P18.2: Sign, no text")
	}
}

// P18.2: Arg of a text with more than MaxText bytes.
func TestLongTexts(t *testing.T) {
	for _, f := range append(few(), api.Few{N: 24, Layers: 11, Height: 6, K: 40, A: 6}) {
		m := rows.MaskedOf(f.N, 47)
		for _, length := range []int{api.MaxText + 1, api.MaxText + 2, 2 * api.MaxText, 1 << 20} {
			refused(t, f, m, rows.Mixed(f.N, 48), rows.Mixed(length, 49), "bytes of the text", length)
		}
	}
}

// P18.2: Arg of an extra with one byte more, one fewer, none, and any other length; with a long text too.
func TestNoExtras(t *testing.T) {
	long := make([]byte, api.MaxText+1)
	for _, f := range append(few(), api.Few{N: 24, Layers: 11, Height: 6, K: 40, A: 6}) {
		m := rows.MaskedOf(f.N, 50)
		for _, extra := range append(rows.Wrong(f.N), m.Seed[1:], m.Seed[:f.N-1], append(bytes.Clone(m.Seed), 0), nil) {
			refused(t, f, m, extra, []byte("text"), "bytes of the extra", len(extra))
			refused(t, f, m, extra, nil, "bytes of the extra, no text", len(extra))
		}
		refused(t, f, m, m.Seed[1:], long, "a short extra, a long text")
		refused(t, f, api.Masked{Secret: m.Secret, Salt: m.Salt, Seed: m.Seed[1:]}, m.Seed[1:], long, "all of these, a short seed")
		if t.Failed() {
			return
		}
	}
}

// P18.2: all trees and all leaves of a set sign, told by many texts.
func TestAllPlaces(t *testing.T) {
	f, m := api.Few{N: 16, Layers: 3, Height: 1, K: 1, A: 1}, rows.MaskedOf(16, 51)
	pub, seen := slh.Public(f, m), map[place]bool{}
	for i := range byte(100) {
		text := []byte{i}
		sig := sign(t, f, m, m.Salt, text)
		_, number, q := parted(f, wide(digestLen(f), row(f, sig, 0), pub, text))
		if p := (place{0, number, q}); !seen[p] {
			seen[p] = true
			expect(t, sig, byOthers.sign(f, m, m.Salt, text), "P18.2: Sign", p)
			fits(t, f, pub, text, sig, p)
		}
	}
	if len(seen) != 8 {
		t.Errorf("of 8 leaves %v signed", len(seen))
	}
}
